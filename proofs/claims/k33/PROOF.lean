import PyProof.Rows.All
import Wide.All
import OpenK.AllK
import Wide.FinOn
import HandS.ExcInit
import KE.KExcInit
import KE.KExcIs
import HandS.ForMost
import HandS.Wide
import HandS.Zip
import HandS.Style
import HandS.IsInst
import HandS.Walk
import HandS.TupAny
import HandS.Defaults
import KE.DataMinMax
import KE.GoesNew
import HandS.NoneIn
import HandS.Deep
import HandS.More
import HandS.TupMul
import HandS.Conv
import KE.KTupSum
import HandS.Text
import HandS.Iter
import HandS.RevRange
import KE.GoesMore
import PyProof.StrBlock2
import HandS.Star
import HandS.Dict
import HandS.SortKw
import KE.KDictZip
import KE.GoesEnum
import KE.KDictItemsList
import KE.KItemsList
import HandS.ListItems
import PyProof.P3In
import HandS.CallSlots
import HandS.WordsExc
import HandS.ExcOwn
import HandS.Finally
import HandS.NamedTupGet
import HandS.OwnIter
import HandS.FStr
import PyProof.CallFns
import PyProof.InstSpecial
import HandS.NestedK
import HandS.EndTab
import PyProof.SumAny
import PyProof.ListOps
import PyProof.Walks
import PyProof.FactsAll.subtypes_4
import HandS.ExcValue
import KE.SortData
import KE.KeyNested
import KE.KDictKeyed
import HandS.TupSets
import HandS.SetBool
import PyProof.Rows.StrJoinRep
import PyProof.Rows.StrCountLaw
import PyProof.P3Eq
import PyProof.TwoTypesSub
import PyProof.ReprReads
import HandS.Ends
import PyProof.ReprRoads
import PyProof.ReprLen
import PyProof.Rows.StrCase
import PySem.Challenge.RW_dunebooks_k33_orders_for_cores
set_option Elab.async false
set_option linter.all false
set_option maxRecDepth 100000
namespace PySem
namespace OEY
open PySem.W PySem.Calls PyProof.Rows PySem.HandSPX
open Builtin Builtin.ObjectAttr
structure Over (B newId initId : String) (tl : List Value) : Prop where
  facts : ExcBaseFacts B newId initId tl
  past : ∀ self, refuseLoop self "__setattr__" tl = pure ()
  obj : tl.contains (.type "object") = true
  kind : typeOf (.type B) = pure (.type "type")
  boot : bootBuiltins (Str.ofString B) = some (.type B)
  solid : Manifest.isStub B = false
  given : handedIn (.builtin initId) = true
theorem over_value : Over "ValueError" "ValueError.__new__" "ValueError.__init__" [.type "ValueError", .type "Exception", .type "BaseException", .type "object"] :=
  ⟨F.excBase_ValueError, F.store_ValueError.passes, by decide +kernel, by kernel_rfl, by decide +kernel, by decide +kernel, by decide +kernel⟩
theorem over_lookup : Over "LookupError" "LookupError.__new__" "LookupError.__init__" [.type "LookupError", .type "Exception", .type "BaseException", .type "object"] :=
  ⟨F.excBase_LookupError, F.store_LookupError.passes, by decide +kernel, by kernel_rfl, by decide +kernel, by decide +kernel, by decide +kernel⟩
theorem over_overflow : Over "OverflowError" "OverflowError.__new__" "OverflowError.__init__" [.type "OverflowError", .type "ArithmeticError", .type "Exception", .type "BaseException", .type "object"] :=
  ⟨F.excBase_OverflowError, F.store_OverflowError.passes, by decide +kernel, by kernel_rfl, by decide +kernel, by decide +kernel, by decide +kernel⟩
section
variable {prog : Program} {w : World} {A : Around} {R : Result → Shared → Prop} {hp : Heap} {g : Array GenState} {d : Drawn} {t : Nat} {os : OsState}
theorem first_field {K : W.Frag} {field : Str} {tk : Tok} {y : Value} {x C : Addr} {row : Array Value} {cd : ClassData} {tl : List Value} (KI : K.In hp) (there : hp.get? x = some { cls := .ref C, data := .fields row }) (hcd : W.clsIn K C = some cd)
    (past : ∀ self, refuseLoop self "__setattr__" tl = pure ()) (obj : tl.contains (.type "object") = true) (hm : cd.mro = .ref C :: tl) (hh : cd.hasDict = true) (ha : W.findIn K (.ref C) field = some none)
    (fin : ∀ h' tk' dx, (∀ b o, b ≠ x → hp.get? b = some o → h'.get? b = some o) → hp.objs.size ≤ dx → dx ≠ x → h'.get? x = some { cls := .ref C, dict := some dx, data := .fields row } →
      h'.Ns1 dx (fun z => if z = field then some y else none) → R (.ok (.ret .none)) ⟨h', g, d, tk', os⟩) :
    codeAny (model prog w) A (.call (.builtin "object.__setattr__") ⟨[.ref x, .str field tk, y], []⟩) R ⟨hp, g, d, t, os⟩ := by
  have J : W.InstAt hp x { cls := .ref C, data := .fields row } C none := ⟨there, rfl, rfl, trivial⟩
  have far : x ≠ hp.objs.size := Nat.ne_of_lt (Heap.lt_size there)
  have hob : cd.mro.contains (.type "object") = true := by rw [hm, List.contains_cons, obj, Bool.or_true]
  have hne : cd.mro.isEmpty = false := by rw [hm]; rfl
  have isO : W.Looks (model prog w) hp (isInstance (.ref x) (.type "object")) true := J.type.andThen (W.looks_mroIn KI (by unfold W.mroIn; rw [hcd, Option.bind_some, if_neg (by rw [hne]; decide), hob]))
  refine codeAny_call_builtin F.store_object.slot.plain F.store_object.entry (@W.check_slot (model prog w) _ _ ⟨hp, g, d, t, os⟩ "object.__setattr__" "object" "__setattr__" (.ref x) [.str field tk, y] [] _ F.store_object.kind F.store_object.split isO (F.store_object.args (.ref x) (.str field tk) y) ?_)
  have lm : W.Looks (model prog w) hp (mroOf (.ref C)) cd.mro := (W.looks_clsIn KI hcd).andThen .now
  have ls : W.Looks (model prog w) hp (storeTaker? none) none := .now
  have lc : W.Looks (model prog w) hp (classData C) cd := W.looks_clsIn KI hcd
  have go : refuseLoop (.ref x) "__setattr__" cd.mro = pure () := by rw [hm, refuseLoop_ref]; exact past _
  rw [W.osa_eq, refuse_eq]
  refine wpAny_bind (wpAny_bind (J.type.at (wpAny_bind (lm.at ?_))))
  rw [go]
  refine wpAny_pure (wpAny_bind (J.type.at (wpAny_bind ((W.looks_findIn KI ha).at (wpAny_bind (ls.at ?_))))))
  show wpAny _ _ (storeInOwnDict (.ref x) (.ref C) (.str field tk) field y false) _ _ _
  obtain ⟨nm, bs, mro, ns, qn, hd, sn, sb, ab, col, del⟩ := cd
  dsimp only at hh
  subst hh
  unfold storeInOwnDict ownDictForStores
  repeat (first | with_reducible refine store_in_new ?_ ?_ | with_reducible refine wpAny_loadPart_at there ?_ | with_reducible refine lc.at ?_ | wp_step)
  · exact ⟨_, #[], _, (Heap.get?_update_ne _ _ _ _ far.symm).trans (Heap.get?_push_at rfl rfl), rfl, fun e he => absurd he (by simp), fun _ => rfl⟩
  · intro h' tk' hn' hs
    have pushed : (hp.push { cls := .type "dict", data := .dict #[] }).get? x = some { cls := .ref C, data := .fields row } := Heap.get?_push_of_some _ there
    refine fin h' tk' hp.objs.size (fun b o hb ho => ?_) (Nat.le_refl _) far.symm ?_ hn'
    · exact (hs.2 b (Nat.ne_of_lt (Heap.lt_size ho))).trans ((Heap.get?_update_ne _ _ _ _ hb).trans (Heap.get?_push_of_some _ ho))
    · exact (hs.2 x far).trans (Heap.get?_update_self _ pushed rfl)
end
end OEY
end PySem
namespace L2
open PySem PySem.Spec PyProof.Rows
structure OwnX (K : PySem.W.Frag) (C : Addr) (newId : String) (tl : List Value) : Prop where
  cls : ∃ nm q N bs sn sub ab col dd k0 k1 k2 k3 k5, K.lookup C = some (excClassObj nm q C N bs tl true sn sub ab col dd k0 k1 k2 k3 k5 newId)
  sa : PySem.W.findIn K (.ref C) "__setattr__" = some (some (.builtin "object.__setattr__"))
  exC : PySem.W.subIn K (.ref C) (.type "BaseException") = some true
  tyC : PySem.W.typeIn K (.ref C) = some (.type "type")
  kC : PySem.W.keepIn K (.ref C) = true
section
variable {X : Cx} {pins : List (Addr × Obj)} {σ : St} {H : Hp} {s : Shared} {a C dx : Addr} {f : Str} {y : V} {u : Value} {fs : List (Str × V)} {E : Value → Shared → Prop} {A : Around} {B newId initId : String} {tl : List Value}
theorem oy_store {Q : Unit → Shared → Prop} (O : PySem.OEY.Over B newId initId tl) (T : OwnX X.K C newId tl) (I : Inv X pins σ H s) (e : H a = some (exo a C none)) (hno : PySem.W.findIn X.K (.ref C) f = some none) (ry : RelV y u)
    (fin : ∀ dx s', H dx = none → dx ≠ a → Inv X pins σ (upd (upd H dx (exd dx [(f, y)])) a (exo a C (some dx))) s' → Q () s') : wpAny (model X.prog X.w) A (setAttr (.ref a) f u) Q E s := by
  obtain ⟨nm, q, N, bs, sn, sub, ab, col, dd, k0, k1, k2, k3, k5, hC⟩ := T.cls
  have known : PySem.W.clsIn X.K C = some { name := nm, bases := bs, mro := .ref C :: tl, ns := N, qualname := q, hasDict := true, slotNames := sn, subclasses := sub, abstract := ab, collection := col, hasDel := false } := by unfold PySem.W.clsIn; rw [hC] <;> rfl
  obtain ⟨t1, ho⟩ := exo_at I.hok e
  obtain ⟨hp, g, d, t, os⟩ := s
  refine PySem.W.set_plain I.kIn (ox := { cls := .ref C, dict := none, data := .fields #[.ref t1, .none, .none, .none, .bool false, .none] }) (od := none) ⟨ho, rfl, rfl, trivial⟩ T.sa ?_
  refine PySem.OEY.first_field I.kIn ho known O.past O.obj rfl rfl hno (fun h' tk' dx k dn dne hx hn => ?_)
  have free : H dx = none := I.hok.fresh dn
  have nd : ∀ {b : Addr} {o : Obj}, hp.get? b = some o → b ≠ dx := fun {b o} q => Nat.ne_of_lt (Nat.lt_of_lt_of_le (Heap.lt_size q) dn)
  have na : ∀ {b : Addr}, H b = none → b ≠ a := fun {b} n z => by rw [z, e] at n; cases n
  have Un1 : Un X.fs [] H (upd (upd H dx (exd dx [(f, y)])) a (exo a C (some dx))) hp h' := ⟨fun b o q n _ _ => k b o (na n) q, fun b o q n _ _ => ⟨o.slots, k b o (na n) q⟩, fun b o q n _ => by rw [upd_ne (na n), upd_ne (nd q)]; exact n, fun b o q _ => by
      by_cases hb : b = a
      · exact ⟨_, by rw [hb]; exact hx⟩
      · exact ⟨o, k b o hb q⟩, fun b xs q => by rw [upd_ne (at_ne e q exo_tup), upd_ne (ne_of_none q free)]; exact q, fun b o v q => by rw [upd_ne (at_ne e q exo_frz), upd_ne (ne_of_none q free)]; exact q,
      fun b ps q => ⟨#[], by rw [upd_ne (at_ne e q exo_tbl), upd_ne (ne_of_none q free), q]; simp⟩⟩
  refine fin dx _ free dne (I.un (t' := tk') Un1 fun b o q => ?_)
  by_cases hb : b = a
  · subst hb; rw [upd_same] at q; cases q; exact exo_ok hx
  · rw [upd_ne hb] at q
    by_cases hd : b = dx
    · subst hd; rw [upd_same] at q; cases q
      exact exd_ok hn (relO_put (fs := []) ry fun g => True.intro)
    · rw [upd_ne hd] at q
      refine (I.hok b o q).stay (fun c v hc z => k c v ?_ z) (fun c hc => ?_) fun c xs hc => ?_
      · rcases hc with hc | hc
        · rw [hc]; exact hb
        · exact at_ne e hc exo_own
      · rw [upd_ne (at_ne e hc exo_own), upd_ne (ne_of_none hc free)]; exact hc
      · rw [upd_ne (at_ne e hc exo_tup), upd_ne (ne_of_none hc free)]; exact hc
theorem oy_init {us : List Value} {Q : Value → Shared → Prop} (O : PySem.OEY.Over B newId initId tl) (T : OwnX X.K C newId tl) (I : Inv X pins σ H s) (e : H a = some (exo a C none)) (hl : us.length ≤ sizeLine) (fin : ∀ s', Inv X pins σ H s' → Q .none s') :
    wpAny (model X.prog X.w) A (call (.builtin initId) (.ref a :: us)) Q E s := by
  obtain ⟨nm, q, N, bs, sn, sub, ab, col, dd, k0, k1, k2, k3, k5, hC⟩ := T.cls
  obtain ⟨t1, ho⟩ := exo_at I.hok e
  obtain ⟨hp, g, d, t, os⟩ := s
  refine wpAny_call (PySem.HandSPX.init_base O.facts (fun _ => rfl) (I.kIn _ _ hC) ho hl fun h' t2 k hx => ?_)
  have J := I.write (t' := t) (x := a) (e := a) (o := exo a C none) (by rw [e]; exact True.intro) (.inl rfl) k ⟨_, hx⟩ (exo_ok hx)
  have same : upd H a (exo a C none) = H := funext fun b => by
    by_cases hb : b = a
    · rw [hb, upd_same, e]
    · rw [upd_ne hb]
  rw [same] at J
  exact fin _ J
end
def tOyI (K : PySem.W.Frag) (newId : String) (tl : List Value) (ta : TA) : TE := fun σ H Q => ta σ H fun vs H1 => ∃ (a C : Addr) (ws : List V), vs = .ref a :: ws ∧ ws.length ≤ 1000 ∧ OwnX K C newId tl ∧ H1 a = some (exo a C none) ∧ Q .non H1
def tOyS (K : PySem.W.Frag) (newId : String) (tl : List Value) (f : Str) (to te : TE) : TS := fun D σ H => te σ H fun y H1 => to σ H1 fun x H2 => ∃ a C : Addr, x = .ref a ∧ OwnX K C newId tl ∧ PySem.W.findIn K (.ref C) f = some none ∧
  H2 a = some (exo a C none) ∧ ∀ dx, H2 dx = none → dx ≠ a → D.nx σ (upd (upd H2 dx (exd dx [(f, y)])) a (exo a C (some dx)))
section
variable {X : Cx} {o e : Expr} {es : List Expr} {to te : TE} {ta : TA} {f : Str} {p p' p1 p2 pos : Pos} {B newId initId : String} {tl : List Value}
theorem pe_oyinit {pl : Sem Bool} (O : PySem.OEY.Over B newId initId tl) (hg : Gl X (Str.ofString B)) (hm : X.mg (Str.ofString B) = none) (vV : PySem.W.findCls X.K (.type B) (.type "type") "__init__" = some (.val (.builtin initId))) (ha : PA X (e :: es) ta)
    (hn : Str.ofString B ≠ "__name__" := by decide) (hdb : (Str.ofString B == ("__debug__" : Str)) = false := by decide)
    (hc : eval (.Call (.Attribute (.Name (Str.ofString B) p1) "__init__" p2) (e :: es) [] pos) X.env = (do
      let ov ← eval (.Name (Str.ofString B) p1) X.env
      standAt p2.atName
      let (f, first) ← holding [ov] (getMethod ov "__init__" pl)
      callWith pos f first (backTo pos (starEach (e :: es) X.env)) (backToKw pos (keywordEach [] X.env))) := by rfl)
    (he : starEach (e :: es) X.env = (false, eval e X.env) :: starEach es X.env := by rfl) (hpl : (backTo pos (starEach es X.env)).any (·.1) = false := by rfl) :
    PE X (.Call (.Attribute (.Name (Str.ofString B) p1) "__init__" p2) (e :: es) [] pos) (tOyI X.K newId tl ta) := by
  refine ⟨fun pins s σ H Q I h => PySem.W.methodCall_KW (ld_blt I hg hm O.boot ?_ hn hdb) hc⟩
  obtain ⟨m, fr⟩ := I.fr
  refine PySem.W.method_type fr I.ok.mod.kin O.kind O.solid vV O.given ?_
  show wpAny _ _ (callWith pos (Value.builtin initId) [] (backTo pos (starEach (e :: es) X.env)) []) _ _ _
  refine PyProof.Rows.callWith_method1 (thn (ha.run pos pins _ σ H _ (I.tok _) h) fun us s1 ⟨vs, H1, I1, r1, a, C, ws, ev, hl, T, ea, q⟩ => ?_) he hpl
  subst ev
  match us, r1 with
  | _ :: ur, .cons ra rw' =>
    cases ra
    exact oy_init O T I1 ea (by rw [← Paired.length rw', sizeLine_eq]; omega) fun s' J => ⟨.non, H1, J, rfl, q⟩
theorem ps_oyst (O : PySem.OEY.Over B newId initId tl) (ho : PE X o to) (he : PE X e te) (hs : swapsWith e (some (.Attribute o f p')) pos.line X.env = pure false := by rfl) : PS X (.Assign [.Attribute o f p'] e pos) (tOyS X.K newId tl f to te) :=
  ⟨fun pins s σ H D I h => plainObj_wpAny_Assign_Attribute (thn (he.run pins s σ H _ I h) fun v s1 ⟨y, H1, I1, r1, q1⟩ => thn (ho.run pins s1 σ H1 _ I1 q1) fun u s2 ⟨x, H2, I2, r2, a, C, ex, T, hno, ea, q⟩ => by
    subst ex
    cases r2
    exact oy_store O T I2 ea hno r1 fun dx s' n ne J => ⟨σ, _, J, q dx n ne⟩) hs⟩
theorem pmk_oy {CX : CXT} {x : Str} {C fI : Addr} {k : Nat} {fd : FuncData} {ps : List Str} {sp : Sp} {ds : List Value} {dvs : List V} (O : PySem.OEY.Over B newId initId tl) (T : OwnX X.K C newId tl) (iC : PySem.W.findIn X.K (.ref C) "__init__" = some (some (.ref fI))) (tI : PySem.W.typeIn X.K (.ref fI) = some (.type "function"))
    (F1 : FnOk X.prog X.w X.K X.mg X.base CX k fI fd ps sp) (hr : Room (k + 1) X.A) (hb : Binds X.K fd ps ds) (hd : Vals dvs ds) (hx : Passes CX X (fun _ _ _ => False)) (hg : Gl X x) (hm : X.mg x = some (.ref C)) (ha : PA X (e :: es) ta)
    (hdb : (x == ("__debug__" : Str)) = false := by decide) (he : starEach (e :: es) X.env = (false, eval e X.env) :: starEach es X.env := by rfl) (hpl : (backTo pos (starEach es X.env)).any (·.1) = false := by rfl) :
    PMk X (.Call (.Name x p) (e :: es) [] pos) (tMkO C sp dvs ta) := by
  intro pins s σ H Q I h
  obtain ⟨nm, q, N, bs, sn, sub, ab, col, dd, k0, k1, k2, k3, k5, hC⟩ := T.cls
  refine wpAny_Call_Name_kw (ld_glob I hg hm ?_ hdb)
  refine PySem.W.callWith_K (h₀ := X.base) I.ok.mod.kin T.kC (thn (ha.run pos pins s σ H _ I h) fun us s1 ⟨vs, H1, I1, r1, hz, q1⟩ => ⟨I1.kIn, ?_⟩) he hpl
  show wpAny _ _ (call (.ref C) us) _ _ _
  obtain ⟨hp, g, dr, tk, os⟩ := s1
  have up : hp.objs.size ≤ hp.objs.size + 1 := Nat.le_succ _
  have hn : H1 (hp.objs.size + 1) = none := I1.hok.fresh up
  have hq := q1 (hp.objs.size + 1) hn
  have kk : ∀ b o, hp.get? b = some o → ((hp.push (PySem.W.kdv_tup us)).push (PySem.HandSPX.excO C hp.objs.size)).get? b = some o := fun b o e => Heap.get?_push_of_some _ (Heap.get?_push_of_some _ e)
  have laid : ((hp.push (PySem.W.kdv_tup us)).push (PySem.HandSPX.excO C hp.objs.size)).get? (hp.objs.size + 1) = some (PySem.HandSPX.excO C hp.objs.size) := by heap_get
  have I2 : Inv X pins σ (upd H1 (hp.objs.size + 1) (exo (hp.objs.size + 1) C none)) ⟨(hp.push (PySem.W.kdv_tup us)).push (PySem.HandSPX.excO C hp.objs.size), g, dr, tk, os⟩ :=
    I1.laid (t' := tk) (a := hp.objs.size + 1) (o := exo (hp.objs.size + 1) C none) (h' := (hp.push (PySem.W.kdv_tup us)).push (PySem.HandSPX.excO C hp.objs.size)) kk up (exo_ok laid)
  have r2 : Vals (V.ref (hp.objs.size + 1) :: (vs ++ dvs)) (Value.ref (hp.objs.size + 1) :: (us ++ ds)) := .cons rfl (r1.append hd)
  have hl : (Value.ref (hp.objs.size + 1) :: us ++ ds).length = ps.length := r2.length.symm.trans (F1.len _ _ _ _ hq)
  have hus : us.length ≤ sizeLine := by rw [← Paired.length r1, sizeLine_eq]; omega
  refine wpAny_call (PySem.HandSPX.call_own O.facts (fun _ => rfl) (I1.kIn _ _ hC) (PySem.W.looks_findIn I1.kIn iC) (fun self => PySem.W.bind_fn I1.kIn self tI) hus
    (codeAny_mono (F1.run _ X.stack _ _ ⟨Value.ref (hp.objs.size + 1) :: us, []⟩ (Value.ref (hp.objs.size + 1) :: (us ++ ds)) _ _ (fun _ _ _ => False) (hr.make C us []) (I2.env0.make C us []) (hb _ (Value.ref (hp.objs.size + 1) :: us) I2.kIn hl) r2 hq) fun r s' hq' => ?_))
  match r, hq' with
  | .error er, hq' => exact hx pins σ _ _ er s' I2 hq'
  | .ok (.ret u), hq' =>
    obtain ⟨v, H2, os2, bare2, un2, hok2, rv, ev, d, fs, ea, ed, hd1, q2⟩ := hq'
    subst ev
    obtain ⟨h2, g2, d2, t2, os'⟩ := s'
    exact ⟨rv, mk_end (raises_own T.exC T.tyC) I1 up kk un2 hok2 os2 bare2 ea ed hd1 q2⟩
  | .ok .next, hq' => exact hq'.elim
  | .ok .brk, hq' => exact hq'.elim
  | .ok .cont, hq' => exact hq'.elim
end
end L2
namespace L2
open PySem PySem.Spec PyProof.Rows
def exk (a C dd : Addr) : HO := .ext fun h => ∃ (oe : Obj) (vs : Array Value), h.get? a = some oe ∧ oe.cls = .ref C ∧ oe.dict = some dd ∧ oe.data = .fields vs
def xfield (c : Str) : Str :=
  if c = "Clash" then "places" else if c = "Against" then "place" else if c = "Astray" then "number" else if c = "BadText" then "at" else if c = "BadRow" then "row" else
  if c = "NoPost" then "post" else if c = "NoOrder" then "number" else if c = "NoCore" then "core" else "many"
inductive XB where
  | v | l | o
def xb (c : Str) : XB := if c ∈ (["Clash", "Against", "Unlike", "Astray", "BadText", "BadRow"] : List Str) then .v else if c = "TooMany" then .o else .l
def XB.tl : XB → List String
  | .v => ["ValueError", "Exception", "BaseException", "object"]
  | .l => ["LookupError", "Exception", "BaseException", "object"]
  | .o => ["OverflowError", "ArithmeticError", "Exception", "BaseException", "object"]
def XB.nm : XB → String
  | .v => "ValueError"
  | .l => "LookupError"
  | .o => "OverflowError"
def XB.new : XB → String
  | .v => "ValueError.__new__"
  | .l => "LookupError.__new__"
  | .o => "OverflowError.__new__"
def XB.ini : XB → String
  | .v => "ValueError.__init__"
  | .l => "LookupError.__init__"
  | .o => "OverflowError.__init__"
theorem XB.over (b : XB) : PySem.OEY.Over b.nm b.new b.ini (b.tl.map Value.type) := by
  cases b
  · exact PySem.OEY.over_value
  · exact PySem.OEY.over_lookup
  · exact PySem.OEY.over_overflow
end L2
namespace Pl
open PySem PySem.Spec PyProof.Rows L2
inductive D where
  | non | bl (b : Bool) | int (i : Int) | str (x : Str) | lst (xs : List D) | tup (xs : List D) | scr (ns : List Int) | adr (a : Addr) | exc (c : Str) (y : D)
mutual
inductive Rep (K : PySem.W.Frag) (F : Hp) : V → D → Prop
  | non : Rep K F .non .non
  | bl (b : Bool) : Rep K F (.bl b) (.bl b)
  | int (i : Int) : Rep K F (.int i) (.int i)
  | str (x : Str) : Rep K F (.str x) (.str x)
  | lst {a : Addr} {vs : List V} {ds : List D} : F a = some (.lst vs) → Reps K F vs ds → Rep K F (.ref a) (.lst ds)
  | tup {a : Addr} {vs : List V} {ds : List D} : F a = some (.tup vs) → Reps K F vs ds → Rep K F (.ref a) (.tup ds)
  | scr {a : Addr} {ns : List Int} : SqL K F a (ns.map V.int) → Rep K F (.ref a) (.scr ns)
  | adr (a : Addr) : Rep K F (.ref a) (.adr a)
  | exc {a C dd : Addr} {v : V} {c : Str} {y : D} : PySem.W.nsIn K mainGlobals c = some (some (.ref C)) → F a = some (exk a C dd) → F dd = some (.xd [(xfield c, v)]) → Rep K F v y → Rep K F (.ref a) (.exc c y)
inductive Reps (K : PySem.W.Frag) (F : Hp) : List V → List D → Prop
  | nil : Reps K F [] []
  | cons {v : V} {vs : List V} {d : D} {ds : List D} : Rep K F v d → Reps K F vs ds → Reps K F (v :: vs) (d :: ds)
end
section
variable {K : PySem.W.Frag} {F F' : Hp}
mutual
theorem Rep.mono (e : Same F F') : ∀ {v : V} {d : D}, Rep K F v d → Rep K F' v d
  | _, _, .non => .non
  | _, _, .bl b => .bl b
  | _, _, .int i => .int i
  | _, _, .str x => .str x
  | _, _, .lst h r => .lst (e _ _ h) (Reps.mono e r)
  | _, _, .tup h r => .tup (e _ _ h) (Reps.mono e r)
  | _, _, .scr h => .scr (e.seq h)
  | _, _, .adr a => .adr a
  | _, _, .exc h1 h2 h3 r => .exc h1 (e _ _ h2) (e _ _ h3) (Rep.mono e r)
theorem Reps.mono (e : Same F F') : ∀ {vs : List V} {ds : List D}, Reps K F vs ds → Reps K F' vs ds
  | _, _, .nil => .nil
  | _, _, .cons h r => .cons (Rep.mono e h) (Reps.mono e r)
end
theorem Reps.length : ∀ {vs : List V} {ds : List D}, Reps K F vs ds → vs.length = ds.length
  | _, _, .nil => rfl
  | _, _, .cons _ r => by simp [Reps.length r]
theorem Reps.get : ∀ {vs : List V} {ds : List D} {i : Nat} {d : D}, Reps K F vs ds → ds[i]? = some d → ∃ v, vs[i]? = some v ∧ Rep K F v d
  | _, _, _, _, .nil, e => by simp at e
  | _, _, 0, _, .cons r _, e => by simp at e; subst e; exact ⟨_, rfl, r⟩
  | _, _, i + 1, d, .cons _ t, e => by
    obtain ⟨u, h1, h2⟩ := Reps.get (i := i) (d := d) t (by simpa using e)
    exact ⟨u, by simpa using h1, h2⟩
theorem Reps.append : ∀ {vs ws : List V} {ds es : List D}, Reps K F vs ds → Reps K F ws es → Reps K F (vs ++ ws) (ds ++ es)
  | _, _, _, _, .nil, s => s
  | _, _, _, _, .cons r t, s => .cons r (Reps.append t s)
theorem Reps.one {v : V} {d : D} (h : Rep K F v d) : Reps K F [v] [d] := .cons h .nil
theorem Reps.set {v : V} {d : D} (r : Rep K F v d) : ∀ {vs : List V} {ds : List D} (i : Nat), Reps K F vs ds → Reps K F (vs.set i v) (ds.set i d)
  | _, _, _, .nil => .nil
  | _, _, 0, .cons _ t => .cons r t
  | _, _, i + 1, .cons q t => .cons q (Reps.set r i t)
theorem Reps.drop : ∀ {vs : List V} {ds : List D} (n : Nat), Reps K F vs ds → Reps K F (vs.drop n) (ds.drop n)
  | _, _, 0, h => h
  | _, _, _ + 1, .nil => .nil
  | _, _, n + 1, .cons _ t => Reps.drop n t
theorem Reps.take : ∀ {vs : List V} {ds : List D} (n : Nat), Reps K F vs ds → Reps K F (vs.take n) (ds.take n)
  | _, _, 0, _ => .nil
  | _, _, _ + 1, .nil => .nil
  | _, _, n + 1, .cons r t => .cons r (Reps.take n t)
theorem Reps.reverse : ∀ {vs : List V} {ds : List D}, Reps K F vs ds → Reps K F vs.reverse ds.reverse
  | _, _, .nil => .nil
  | _, _, .cons r t => by
    rw [List.reverse_cons, List.reverse_cons]
    exact (Reps.reverse t).append (.one r)
theorem Reps.ints : ∀ {vs : List V} {ns : List Int}, Reps K F vs (ns.map D.int) → vs = ns.map V.int
  | _, [], .nil => rfl
  | _, n :: ns, .cons h t => by cases h; rw [Reps.ints t]; rfl
theorem Reps.ofInts : ∀ (ns : List Int), Reps K F (ns.map V.int) (ns.map D.int)
  | [] => .nil
  | n :: ns => .cons (.int n) (Reps.ofInts ns)
theorem Reps.bls : ∀ {vs : List V} {bs : List Bool}, Reps K F vs (bs.map D.bl) → vs = bs.map V.bl
  | _, [], .nil => rfl
  | _, n :: ns, .cons h t => by cases h; rw [Reps.bls t]; rfl
end
inductive Fd where
  | val (d : D) | own (a : Addr) (xs : List D)
def IsDic (φ : Heap → Prop) : Prop := ∃ a : Addr, ∀ h : Heap, φ h → ∃ (o : Obj) (es : Array DictEntry) (ep : Nat), h.get? a = some o ∧ o.data = .dict es ep
def Mut : HO → Prop
  | .lst _ => True
  | .dK _ => True
  | .ins _ _ _ => True
  | .own _ => True
  | .frz _ _ => True
  | .dT _ => True
  | .ext φ => IsDic φ
  | _ => False
structure GS where
  root : Addr
  foot : List Addr
  at' : PySem.W.Frag → Hp → Hp → Prop
  mono : ∀ {K : PySem.W.Frag} {F F' H H' : Hp}, at' K F H → Same F F' → (∀ p ∈ foot, H' p = H p) → at' K F' H'
  muts : ∀ {K : PySem.W.Frag} {F H : Hp}, at' K F H → ∀ p ∈ foot, ∃ o, H p = some o ∧ Mut o
  nl : Bool
  drop : nl = true → ∀ {K : PySem.W.Frag} {F F' H : Hp}, (∀ b xs, F b = some (.tup xs) → F' b = some (.tup xs)) → at' K F H → at' K F' H
inductive Sh where
  | dic (a : Addr) (ps : List (L2.Key × D)) | ins (a C dx : Addr) (fs : List (Str × Fd))
  | dicL (a : Addr) (o : Obj) (kvs : List (L2.Key × V)) (ps : List (L2.Key × D))
  | gen (g : GS)
inductive Cell where
  | val (d : D) | own (a : Addr) (xs : List D) | box (s : Sh)
abbrev Ro := List (Option Cell)
def KvR (K : PySem.W.Frag) (F : Hp) : List (L2.Key × V) → List (L2.Key × D) → Prop
  | [], [] => True
  | p :: ps, q :: qs => p.1 = q.1 ∧ Rep K F p.2 q.2 ∧ KvR K F ps qs
  | _, _ => False
def Fd.foot : Fd → List Addr
  | .val _ => []
  | .own a _ => [a]
def Fd.At (K : PySem.W.Frag) (F H : Hp) (v : V) : Fd → Prop
  | .val d => Rep K F v d
  | .own a xs => v = .ref a ∧ ∃ vs, H a = some (.lst vs) ∧ Reps K F vs xs
def FsR (K : PySem.W.Frag) (F H : Hp) : List (Str × V) → List (Str × Fd) → Prop
  | [], [] => True
  | p :: ps, q :: qs => p.1 = q.1 ∧ q.2.At K F H p.2 ∧ FsR K F H ps qs
  | _, _ => False
def fsFoot (fs : List (Str × Fd)) : List Addr := fs.flatMap fun p => p.2.foot
def Sh.root : Sh → Addr
  | .dic a _ => a
  | .ins a _ _ _ => a
  | .dicL a _ _ _ => a
  | .gen g => g.root
def Sh.foot : Sh → List Addr
  | .dic a _ => [a]
  | .ins a _ dx fs => a :: dx :: fsFoot fs
  | .dicL a _ _ _ => [a]
  | .gen g => g.foot
def Sh.At (K : PySem.W.Frag) (F H : Hp) : Sh → Prop
  | .dic a ps => ∃ kvs, H a = some (.dK kvs) ∧ KvR K F kvs ps
  | .ins a C dx fs => (fsFoot fs).Nodup ∧ ∃ vs, H a = some (.ins C dx vs) ∧ H dx = some (.own a) ∧ FsR K F H vs fs
  | .dicL a o kvs ps => H a = some (.frz o (.dK kvs)) ∧ KvR K F kvs ps
  | .gen g => g.at' K F H
theorem KvR.mono {K : PySem.W.Frag} {F F' : Hp} (sm : Same F F') : ∀ {kvs : List (L2.Key × V)} {ps : List (L2.Key × D)}, KvR K F kvs ps → KvR K F' kvs ps
  | [], [], _ => trivial
  | _ :: _, _ :: _, h => ⟨h.1, h.2.1.mono sm, KvR.mono sm h.2.2⟩
  | [], _ :: _, h => h.elim
  | _ :: _, [], h => h.elim
theorem FsR.mono {K : PySem.W.Frag} {F F' H H' : Hp} (sm : Same F F') : ∀ {vs : List (Str × V)} {fs : List (Str × Fd)}, (∀ p ∈ fsFoot fs, H' p = H p) → FsR K F H vs fs → FsR K F' H' vs fs
  | [], [], _, _ => trivial
  | (x, v) :: vs, (y, .val d) :: fs, e, h => ⟨h.1, h.2.1.mono sm, FsR.mono sm e h.2.2⟩
  | (x, v) :: vs, (y, .own a xs) :: fs, e, h => ⟨h.1, by
    obtain ⟨h1, ws, h2, h3⟩ := h.2.1
    exact ⟨h1, ws, by rw [e a (List.mem_cons_self)]; exact h2, h3.mono sm⟩, FsR.mono sm (fun p m => e p (List.mem_cons_of_mem _ m)) h.2.2⟩
  | [], _ :: _, _, h => h.elim
  | _ :: _, [], _, h => h.elim
theorem FsR.live {K : PySem.W.Frag} {F H : Hp} : ∀ {vs : List (Str × V)} {fs : List (Str × Fd)}, FsR K F H vs fs → ∀ p ∈ fsFoot fs, ∃ o, H p = some o
  | [], [], _, p, m => by cases m
  | (x, v) :: vs, (y, .val d) :: fs, h, p, m => FsR.live h.2.2 p m
  | (x, v) :: vs, (y, .own a xs) :: fs, h, p, m => by
    have m : p ∈ a :: fsFoot fs := m
    rcases List.mem_cons.mp m with rfl | m
    · obtain ⟨h1, ws, h2, h3⟩ := h.2.1
      exact ⟨_, h2⟩
    · exact FsR.live h.2.2 p m
  | [], _ :: _, h, _, _ => h.elim
  | _ :: _, [], h, _, _ => h.elim
theorem Sh.At.mono {K : PySem.W.Frag} {F F' H H' : Hp} {s : Sh} (h : s.At K F H) (sm : Same F F') (e : ∀ p ∈ s.foot, H' p = H p) : s.At K F' H' := by
  cases s with
  | dic a ps =>
    obtain ⟨kvs, h1, h2⟩ := h
    exact ⟨kvs, by rw [e a (by simp [Sh.foot])]; exact h1, h2.mono sm⟩
  | ins a C dx fs =>
    obtain ⟨n, vs, h1, h2, h3⟩ := h
    exact ⟨n, vs, by rw [e a (by simp [Sh.foot])]; exact h1, by rw [e dx (by simp [Sh.foot])]; exact h2, h3.mono sm fun p m => e p (by simp [Sh.foot, m])⟩
  | dicL a o kvs ps => exact ⟨by rw [e a (by simp [Sh.foot])]; exact h.1, h.2.mono sm⟩
  | gen g => exact g.mono h sm e
theorem Sh.At.live {K : PySem.W.Frag} {F H : Hp} {s : Sh} (h : s.At K F H) {p : Addr} (m : p ∈ s.foot) : ∃ o, H p = some o := by
  cases s with
  | dic a ps =>
    obtain ⟨kvs, h1, h2⟩ := h
    rw [List.mem_singleton.mp m]; exact ⟨_, h1⟩
  | ins a C dx fs =>
    obtain ⟨n, vs, h1, h2, h3⟩ := h
    have m : p ∈ a :: dx :: fsFoot fs := m
    rcases List.mem_cons.mp m with rfl | m
    · exact ⟨_, h1⟩
    rcases List.mem_cons.mp m with rfl | m
    · exact ⟨_, h2⟩
    · exact h3.live p m
  | dicL a o kvs ps => rw [List.mem_singleton.mp m]; exact ⟨_, h.1⟩
  | gen g => obtain ⟨o, q, _⟩ := g.muts h p m; exact ⟨o, q⟩
def InBox (ρ : Ro) (p : Addr) : Prop := ∃ (i : Nat) (s : Sh), ρ[i]? = some (some (.box s)) ∧ p ∈ s.foot
structure BxOk (K : PySem.W.Frag) (F G H : Hp) (σ : L2.St) (ρ : Ro) : Prop where
  box : ∀ (i : Nat) (s : Sh), ρ[i]? = some (some (.box s)) → σ[i]? = some (some (.ref s.root)) ∧ (∀ p ∈ s.foot, F p = none ∧ G p = none) ∧ s.At K F H
  bb : ∀ (i j : Nat) (s t : Sh) (p : Addr), ρ[i]? = some (some (.box s)) → ρ[j]? = some (some (.box t)) → p ∈ s.foot → p ∈ t.foot → i = j
  bo : ∀ (j : Nat) (a : Addr) (xs : List D), ρ[j]? = some (some (.own a xs)) → ¬ InBox ρ a
section
variable {K : PySem.W.Frag} {F F' G G' H H' : Hp} {σ σ' : L2.St} {ρ ρ' : Ro}
theorem BxOk.to (B : BxOk K F G H σ ρ) (hs : Same F F') (hp : ∀ p, InBox ρ p → F' p = none ∧ G' p = none ∧ H' p = H p) (hb : ∀ (i : Nat) (s : Sh), ρ'[i]? = some (some (.box s)) → ρ[i]? = some (some (.box s)) ∧ σ'[i]? = σ[i]?)
    (ho : ∀ (j : Nat) (a : Addr) (xs : List D), ρ'[j]? = some (some (.own a xs)) → (∃ (k : Nat) (ys : List D), ρ[k]? = some (some (.own a ys))) ∨ ¬ InBox ρ a) : BxOk K F' G' H' σ' ρ' := by
  refine ⟨fun i s q => ?_, fun i j s t p q1 q2 m1 m2 => B.bb i j s t p (hb i s q1).1 (hb j t q2).1 m1 m2, fun j a xs q m => ?_⟩
  · obtain ⟨h1, h2⟩ := hb i s q
    obtain ⟨g1, g2, g3⟩ := B.box i s h1
    exact ⟨h2.trans g1, fun p m => ⟨(hp p ⟨i, s, h1, m⟩).1, (hp p ⟨i, s, h1, m⟩).2.1⟩, g3.mono hs fun p m => (hp p ⟨i, s, h1, m⟩).2.2⟩
  · have n : ¬ InBox ρ a := (ho j a xs q).elim (fun ⟨k, ys, e⟩ => B.bo k a ys e) id
    obtain ⟨i, s, h1, h2⟩ := m
    exact n ⟨i, s, (hb i s h1).1, h2⟩
theorem BxOk.free (B : BxOk K F G H σ ρ) {p : Addr} (m : InBox ρ p) : F p = none ∧ G p = none ∧ ∃ o, H p = some o := by
  obtain ⟨i, s, h1, h2⟩ := m
  obtain ⟨g1, g2, g3⟩ := B.box i s h1
  exact ⟨(g2 p h2).1, (g2 p h2).2, g3.live h2⟩
theorem BxOk.apart (B : BxOk K F G H σ ρ) {p a : Addr} {j : Nat} {xs : List D} (m : InBox ρ p) (e : ρ[j]? = some (some (.own a xs))) : p ≠ a := fun z => by
  subst z
  exact B.bo j _ xs e m
theorem BxOk.heap (B : BxOk K F G H σ ρ) (hs : Same F F') (hp : ∀ p, InBox ρ p → F' p = none ∧ G' p = none ∧ H' p = H p) : BxOk K F' G' H' σ ρ := B.to hs hp (fun i s q => ⟨q, rfl⟩) fun j a xs q => .inl ⟨j, xs, q⟩
theorem BxOk.nil (h : ∀ (i : Nat) (s : Sh), ρ[i]? ≠ some (some (.box s))) : BxOk K F G H σ ρ := ⟨fun i s q => absurd q (h i s), fun i j s t p q1 _ _ _ => absurd q1 (h i s), fun j a xs q m => by
  obtain ⟨i, s, h1, _⟩ := m
  exact h i s h1⟩
theorem BxOk.fresh (B : BxOk K F G H σ ρ) {a : Addr} (h : H a = none) : ¬ InBox ρ a := fun m => by
  obtain ⟨_, _, o, e⟩ := B.free m
  rw [h] at e; cases e
theorem BxOk.notG (B : BxOk K F G H σ ρ) {a : Addr} {o : HO} (h : G a = some o) : ¬ InBox ρ a := fun m => by
  have := (B.free m).2.1
  rw [h] at this; cases this
theorem BxOk.unguard (B : BxOk K F G' H σ ρ) (h : Same G G') : BxOk K F G H σ ρ := B.heap (.refl _) fun p m => ⟨(B.free m).1, h.free (B.free m).2.1, rfl⟩
theorem BxOk.guard (B : BxOk K F G H σ ρ) {p : Addr} {o : HO} (h : ¬ InBox ρ p) : BxOk K F (upd G p o) H σ ρ := B.heap (.refl _) fun q m => ⟨(B.free m).1, by rw [upd_ne (a := p) (b := q) fun z => h (by rw [← z]; exact m)]; exact (B.free m).2.1, rfl⟩
theorem BxOk.upd' (B : BxOk K F G H σ ρ) {p : Addr} {o : HO} (h : ¬ InBox ρ p) : BxOk K F G (upd H p o) σ ρ := B.heap (.refl _) fun q m => ⟨(B.free m).1, (B.free m).2.1, upd_ne fun z => h (by rw [← z]; exact m)⟩
theorem BxOk.new (B : BxOk K F G H σ ρ) {p : Addr} {o : HO} (hF : F p = none) (h : H p = none) : BxOk K (upd F p o) G (upd H p o) σ ρ := B.heap (fun b x e => by rw [upd_ne (ne_of_none e hF)]; exact e) fun q m => by
  obtain ⟨f, g, o, e⟩ := B.free m
  have n : q ≠ p := ne_of_none e h
  exact ⟨by rw [upd_ne n]; exact f, g, by rw [upd_ne n]⟩
theorem BxOk.more (B : BxOk K F G H σ ρ) {p : Addr} {o : HO} (h : H p = none) : BxOk K F G (upd H p o) σ ρ := B.heap (.refl _) fun q m => by
  obtain ⟨f, g, o, e⟩ := B.free m
  have n : q ≠ p := ne_of_none e h
  exact ⟨f, g, by rw [upd_ne n]⟩
theorem set_box {i j : Nat} {c : Option Cell} {s : Sh} (hc : ∀ t, c ≠ some (.box t)) (q : (ρ.set i c)[j]? = some (some (.box s))) : ρ[j]? = some (some (.box s)) ∧ i ≠ j := by
  by_cases hj : i = j
  · subst hj
    by_cases hi : i < ρ.length
    · rw [List.getElem?_set_self hi] at q; exact absurd (Option.some.inj q) (hc s)
    · rw [List.getElem?_eq_none (by simpa using hi)] at q; cases q
  · rw [List.getElem?_set_ne hj] at q; exact ⟨q, hj⟩
theorem set_inbox {i : Nat} {c : Option Cell} {p : Addr} (hc : ∀ t, c ≠ some (.box t)) : InBox (ρ.set i c) p → InBox ρ p := fun ⟨j, s, e, m⟩ => ⟨j, s, (set_box hc e).1, m⟩
theorem set_own {i j : Nat} {c : Option Cell} {a : Addr} {xs : List D} (q : (ρ.set i c)[j]? = some (some (.own a xs))) : c = some (.own a xs) ∨ ρ[j]? = some (some (.own a xs)) := by
  by_cases hj : i = j
  · subst hj
    by_cases hi : i < ρ.length
    · rw [List.getElem?_set_self hi] at q; exact .inl (Option.some.inj q)
    · rw [List.getElem?_eq_none (by simpa using hi)] at q; cases q
  · rw [List.getElem?_set_ne hj] at q; exact .inr q
theorem BxOk.set (B : BxOk K F G H σ ρ) (i : Nat) (v : Option V) {c : Option Cell} (hc : ∀ t, c ≠ some (.box t)) (ho : ∀ a xs, c = some (.own a xs) → (∃ (k : Nat) (ys : List D), ρ[k]? = some (some (.own a ys))) ∨ ¬ InBox ρ a) : BxOk K F G H (σ.set i v) (ρ.set i c) :=
  B.to (.refl _) (fun p m => ⟨(B.free m).1, (B.free m).2.1, rfl⟩) (fun j s q => ⟨(set_box hc q).1, List.getElem?_set_ne (set_box hc q).2⟩) fun j a xs q => (set_own q).elim (ho a xs) fun q => .inl ⟨j, xs, q⟩
theorem BxOk.set' (B : BxOk K F G H σ ρ) (i : Nat) {c : Option Cell} (hc : ∀ t, c ≠ some (.box t)) (ho : ∀ a xs, c = some (.own a xs) → (∃ (k : Nat) (ys : List D), ρ[k]? = some (some (.own a ys))) ∨ ¬ InBox ρ a) : BxOk K F G H σ (ρ.set i c) :=
  B.to (.refl _) (fun p m => ⟨(B.free m).1, (B.free m).2.1, rfl⟩) (fun j s q => ⟨(set_box hc q).1, rfl⟩) fun j a xs q => (set_own q).elim (ho a xs) fun q => .inl ⟨j, xs, q⟩
end
structure Up (G F F' : Hp) : Prop where
  ex : Same F F'
  out : ∀ a o, F' a = some o → F a = some o ∨ G a = none
theorem Up.refl (G F : Hp) : Up G F F := ⟨.refl F, fun _ _ h => .inl h⟩
theorem Up.trans {G F F1 F2 : Hp} (a : Up G F F1) (b : Up G F1 F2) : Up G F F2 := ⟨a.ex.trans b.ex, fun x o h => by
  rcases b.out x o h with h | h
  · exact a.out x o h
  · exact .inr h⟩
theorem Up.isNone {G F F' : Hp} (u : Up G F F') {a : Addr} {o : HO} (hF : F a = none) (hG : G a = some o) : F' a = none := by
  cases q : F' a with
  | none => rfl
  | some x =>
    rcases u.out a x q with h | h
    · rw [hF] at h; cases h
    · rw [hG] at h; cases h
theorem Up.less {G G' F F' : Hp} (u : Up G F F') (h : Same G' G) : Up G' F F' := ⟨u.ex, fun a o e => by
  rcases u.out a o e with q | q
  · exact .inl q
  · exact .inr (h.free q)⟩
theorem FsR.mut {K : PySem.W.Frag} {F H : Hp} : ∀ {vs : List (Str × V)} {fs : List (Str × Fd)}, FsR K F H vs fs → ∀ p ∈ fsFoot fs, ∃ o, H p = some o ∧ Mut o
  | [], [], _, p, m => by cases m
  | (x, v) :: vs, (y, .val d) :: fs, h, p, m => FsR.mut h.2.2 p m
  | (x, v) :: vs, (y, .own a xs) :: fs, h, p, m => by
    have m : p ∈ a :: fsFoot fs := m
    rcases List.mem_cons.mp m with rfl | m
    · obtain ⟨h1, ws, h2, h3⟩ := h.2.1
      exact ⟨_, h2, trivial⟩
    · exact FsR.mut h.2.2 p m
  | [], _ :: _, h, _, _ => h.elim
  | _ :: _, [], h, _, _ => h.elim
theorem Sh.At.mut {K : PySem.W.Frag} {F H : Hp} {s : Sh} (h : s.At K F H) {p : Addr} (m : p ∈ s.foot) : ∃ o, H p = some o ∧ Mut o := by
  cases s with
  | dic a ps =>
    obtain ⟨kvs, h1, h2⟩ := h
    rw [List.mem_singleton.mp m]; exact ⟨_, h1, trivial⟩
  | ins a C dx fs =>
    obtain ⟨n, vs, h1, h2, h3⟩ := h
    have m : p ∈ a :: dx :: fsFoot fs := m
    rcases List.mem_cons.mp m with rfl | m
    · exact ⟨_, h1, trivial⟩
    rcases List.mem_cons.mp m with rfl | m
    · exact ⟨_, h2, trivial⟩
    · exact h3.mut p m
  | dicL a o kvs ps => rw [List.mem_singleton.mp m]; exact ⟨_, h.1, trivial⟩
  | gen g => exact g.muts h p m
theorem BxOk.mut {K : PySem.W.Frag} {F G H : Hp} {σ : L2.St} {ρ : Ro} (B : BxOk K F G H σ ρ) {p : Addr} (m : InBox ρ p) : ∃ o, H p = some o ∧ Mut o := by
  obtain ⟨i, s, h1, h2⟩ := m
  exact (B.box i s h1).2.2.mut h2
class TJ where
  J : Hp → Hp → Hp → Prop
  step : ∀ {G F F' H H' : Hp}, J G F H → (∀ b o, H b = some o → ¬ Mut o → H' b = some o) → (∀ b o, F' b = some o → F b = some o ∨ H b = none ∨ ∃ x, H b = some x ∧ Mut x) → J G F' H'
  frame : ∀ {G G' F H : Hp}, J G F H → (∀ b o, G' b = some o → G b = some o ∨ ∃ x, H b = some x ∧ Mut x) → J G' F H
@[reducible] def tj0 : TJ := ⟨fun _ _ _ => True, fun _ _ _ => trivial, fun _ _ => trivial⟩
@[reducible] instance (priority := low) tjNone : TJ := tj0
structure SameJ [TJ] (G F H : Hp) : Prop where
  same : Same G H
  tj : TJ.J G F H
section
variable [TJ] {G G' F F' H H' : Hp}
instance : CoeFun (SameJ G F H) (fun _ => ∀ a x, G a = some x → H a = some x) := ⟨fun h => h.same⟩
instance : CoeOut (SameJ G F H) (Same G H) := ⟨fun h => h.same⟩
theorem SameJ.step (h : SameJ G F H) (e : Same H H') (f : ∀ b o, F' b = some o → F b = some o ∨ H b = none ∨ ∃ vs, H b = some (.lst vs)) : SameJ G F' H' := ⟨h.same.trans e, TJ.step h.tj (fun b o q _ => e b o q) fun b o q => (f b o q).elim .inl fun z => z.elim (fun z => .inr (.inl z)) fun ⟨vs, z⟩ => .inr (.inr ⟨_, z, trivial⟩)⟩
theorem SameJ.trans (h : SameJ G F H) (e : Same H H') : SameJ G F H' := h.step e fun _ _ q => .inl q
theorem SameJ.up (h : SameJ G F H) (e : Same H H') (u : ∀ b o, F' b = some o → F b = some o ∨ H b = none) : SameJ G F' H' := h.step e fun b o q => (u b o q).elim .inl fun z => .inr (.inl z)
theorem SameJ.new (h : SameJ G F H) {p : Addr} {o : HO} (n : H p = none) : SameJ G (upd F p o) (upd H p o) := h.up (fun b x q => by rw [upd_ne (ne_of_none q n)]; exact q) fun b x q => by
  by_cases m : b = p
  · subst m; exact .inr n
  · rw [upd_ne m] at q; exact .inl q
theorem SameJ.froz (h : SameJ G F H) (f : ∀ b o, F' b = some o → F b = some o ∨ ∃ vs, H b = some (.lst vs)) : SameJ G F' H := h.step (.refl _) fun b o q => (f b o q).elim .inl fun z => .inr (.inr z)
theorem SameJ.free (h : SameJ G F H) {a : Addr} (n : H a = none) : G a = none := h.same.free n
theorem SameJ.less (h : SameJ G F H) (e : Same G' G) : SameJ G' F H := ⟨e.trans h.same, TJ.frame h.tj fun b o q => .inl (e b o q)⟩
theorem SameJ.mut (h : SameJ G F H) {a : Addr} {o u : HO} (n : G a = none) (e : H a = some o) (mo : Mut o := by trivial) : SameJ G F (upd H a u) :=
  ⟨fun b x q => by
    have m : b ≠ a := fun z => by subst z; rw [n] at q; cases q
    rw [upd_ne m]; exact h.same b x q, TJ.step h.tj (fun b o q ne => by
    have m : b ≠ a := fun z => by subst z; rw [e] at q; exact ne ((Option.some.inj q) ▸ mo)
    rw [upd_ne m]; exact q) fun _ _ q => .inl q⟩
theorem SameJ.guard (h : SameJ G F H) {a : Addr} {o : HO} (e : H a = some o) (mo : Mut o := by trivial) : SameJ (upd G a o) F H :=
  ⟨fun b x q => by
    by_cases m : b = a
    · subst m; rw [upd_same] at q; cases q; exact e
    · rw [upd_ne m] at q; exact h.same b x q, TJ.frame h.tj fun b u q => by
    by_cases m : b = a
    · subst m; exact .inr ⟨o, e, mo⟩
    · rw [upd_ne m] at q; exact .inl q⟩
end
structure Sim [TJ] (K : PySem.W.Frag) (G F H : Hp) (σ : L2.St) (ρ : Ro) : Prop where
  hF : Same F H
  hG : SameJ G F H
  len : σ.length = ρ.length
  val : ∀ (i : Nat) (d : D), ρ[i]? = some (some (.val d)) → ∃ v, σ[i]? = some (some v) ∧ Rep K F v d
  own : ∀ (i : Nat) (a : Addr) (xs : List D), ρ[i]? = some (some (.own a xs)) → σ[i]? = some (some (.ref a)) ∧ F a = none ∧ G a = none ∧ ∃ vs, H a = some (.lst vs) ∧ Reps K F vs xs
  ne : ∀ (i j : Nat) (a : Addr) (xs ys : List D), ρ[i]? = some (some (.own a xs)) → ρ[j]? = some (some (.own a ys)) → i = j
  bx : BxOk K F G H σ ρ
structure SimR (K : PySem.W.Frag) (G F H : Hp) (σ : L2.St) (ρ : Ro) : Prop where
  hF : Same F H
  hG : Same G H
  len : σ.length = ρ.length
  val : ∀ (i : Nat) (d : D), ρ[i]? = some (some (.val d)) → ∃ v, σ[i]? = some (some v) ∧ Rep K F v d
  own : ∀ (i : Nat) (a : Addr) (xs : List D), ρ[i]? = some (some (.own a xs)) → σ[i]? = some (some (.ref a)) ∧ F a = none ∧ G a = none ∧ ∃ vs, H a = some (.lst vs) ∧ Reps K F vs xs
  ne : ∀ (i j : Nat) (a : Addr) (xs ys : List D), ρ[i]? = some (some (.own a xs)) → ρ[j]? = some (some (.own a ys)) → i = j
  bx : BxOk K F G H σ ρ
theorem Sim.raw [TJ] {K : PySem.W.Frag} {G F H : Hp} {σ : L2.St} {ρ : Ro} (S : Sim K G F H σ ρ) : SimR K G F H σ ρ := ⟨S.hF, S.hG.same, S.len, S.val, S.own, S.ne, S.bx⟩
theorem SimR.sim {K : PySem.W.Frag} {G F H : Hp} {σ : L2.St} {ρ : Ro} (S : SimR K G F H σ ρ) : Sim K G F H σ ρ := ⟨S.hF, ⟨S.hG, trivial⟩, S.len, S.val, S.own, S.ne, S.bx⟩
theorem SameJ.rfl' (F H : Hp) : SameJ H F H := ⟨.refl H, trivial⟩
theorem SameJ.of {G F H : Hp} (h : Same G H) : SameJ G F H := ⟨h, trivial⟩
section
variable [TJ] {K : PySem.W.Frag} {G F H : Hp} {σ : L2.St} {ρ : Ro}
theorem Sim.freshF (S : Sim K G F H σ ρ) {p : Addr} (h : H p = none) : F p = none := S.hF.free h
theorem Sim.freshG (S : Sim K G F H σ ρ) {p : Addr} (h : H p = none) : G p = none := S.hG.free h
theorem same_new {H : Hp} {p : Addr} {o : HO} (h : H p = none) : Same H (upd H p o) := fun b x e => by
  rw [upd_ne (ne_of_none e h)]
  exact e
theorem Up.new {p : Addr} {o : HO} (hF : F p = none) (hG : G p = none) : Up G F (upd F p o) := ⟨same_new hF, fun a x e => by
  by_cases q : a = p
  · subst q; exact .inr hG
  · rw [upd_ne q] at e; exact .inl e⟩
theorem Sim.new (S : Sim K G F H σ ρ) {p : Addr} {o : HO} (h : H p = none) : Sim K G (upd F p o) (upd H p o) σ ρ where
  hF := fun a x e => by
    by_cases q : a = p
    · subst q; rw [upd_same] at e ⊢; exact e
    · rw [upd_ne q] at e ⊢; exact S.hF a x e
  hG := S.hG.new h
  len := S.len
  val := fun i d e => by
    obtain ⟨v, h1, h2⟩ := S.val i d e
    exact ⟨v, h1, h2.mono (same_new (S.freshF h))⟩
  own := fun i a xs e => by
    obtain ⟨h1, h2, h3, vs, h4, h5⟩ := S.own i a xs e
    have q : a ≠ p := ne_of_none h4 h
    exact ⟨h1, by rw [upd_ne q]; exact h2, h3, vs, by rw [upd_ne q]; exact h4, h5.mono (same_new (S.freshF h))⟩
  ne := S.ne
  bx := S.bx.new (S.freshF h) h
theorem Sim.upNew (S : Sim K G F H σ ρ) {p : Addr} {o : HO} (h : H p = none) : Up G F (upd F p o) := Up.new (S.freshF h) (S.freshG h)
theorem Sim.more (S : Sim K G F H σ ρ) {p : Addr} {o : HO} (h : H p = none) : Sim K G F (upd H p o) σ ρ where
  hF := S.hF.trans (same_new h)
  hG := S.hG.trans (same_new h)
  len := S.len
  val := S.val
  own := fun i a xs e => by
    obtain ⟨h1, h2, h3, vs, h4, h5⟩ := S.own i a xs e
    exact ⟨h1, h2, h3, vs, by rw [upd_ne (ne_of_none h4 h)]; exact h4, h5⟩
  ne := S.ne
  bx := S.bx.more h
theorem Sim.mut (S : Sim K G F H σ ρ) {i : Nat} {a : Addr} {xs ys : List D} {vs : List V} (e : ρ[i]? = some (some (.own a xs))) (r : Reps K F vs ys) :
    Sim K G F (upd H a (.lst vs)) σ (ρ.set i (some (.own a ys))) := by
  obtain ⟨h1, h2, h3, ws, h4, h5⟩ := S.own i a xs e
  have hi : i < ρ.length := by
    rcases Nat.lt_or_ge i ρ.length with h | h
    · exact h
    · rw [List.getElem?_eq_none h] at e; cases e
  refine ⟨fun b x q => ?_, S.hG.mut h3 h4, by simpa using S.len, fun j d q => ?_, fun j b zs q => ?_, fun j k b zs ws q1 q2 => ?_, S.bx.to (.refl _) (fun q m => ⟨(S.bx.free m).1, (S.bx.free m).2.1, upd_ne (S.bx.apart m e)⟩) (fun j s q => ⟨(set_box (by simp) q).1, rfl⟩) fun j b zs q => (set_own q).elim (fun z => by cases z; exact .inl ⟨i, xs, e⟩) fun q => .inl ⟨j, zs, q⟩⟩
  · have n : b ≠ a := fun z => by subst z; rw [h2] at q; cases q
    rw [upd_ne n]; exact S.hF b x q
  · by_cases hj : i = j
    · subst hj; rw [List.getElem?_set_self hi] at q; cases q
    · rw [List.getElem?_set_ne hj] at q; exact S.val j d q
  · by_cases hj : i = j
    · subst hj
      rw [List.getElem?_set_self hi] at q
      cases q
      exact ⟨h1, h2, h3, vs, upd_same, r⟩
    · rw [List.getElem?_set_ne hj] at q
      obtain ⟨g1, g2, g3, us, g4, g5⟩ := S.own j b zs q
      have n : b ≠ a := fun z => by subst z; exact hj (S.ne _ _ _ _ _ e q)
      exact ⟨g1, g2, g3, us, by rw [upd_ne n]; exact g4, g5⟩
  · by_cases hj : i = j
    · subst hj
      by_cases hk : i = k
      · exact hk
      · rw [List.getElem?_set_self hi] at q1
        rw [List.getElem?_set_ne hk] at q2
        cases q1
        exact absurd (S.ne _ _ _ _ _ e q2) hk
    · by_cases hk : i = k
      · subst hk
        rw [List.getElem?_set_self hi] at q2
        rw [List.getElem?_set_ne hj] at q1
        cases q2
        exact absurd (S.ne _ _ _ _ _ e q1) hj
      · rw [List.getElem?_set_ne hj] at q1
        rw [List.getElem?_set_ne hk] at q2
        exact S.ne _ _ _ _ _ q1 q2
theorem Sim.setVal (S : Sim K G F H σ ρ) (i : Nat) {v : V} {d : D} (r : Rep K F v d) : Sim K G F H (σ.set i (some v)) (ρ.set i (some (.val d))) := by
  refine ⟨S.hF, S.hG, by simpa using S.len, fun j d' q => ?_, fun j b zs q => ?_, fun j k b zs ws q1 q2 => ?_, S.bx.set i _ (by simp) (by simp)⟩
  · by_cases hj : i = j
    · subst hj
      by_cases hi : i < ρ.length
      · rw [List.getElem?_set_self hi] at q
        cases q
        exact ⟨v, List.getElem?_set_self (by rw [S.len]; exact hi), r⟩
      · rw [List.getElem?_eq_none (by simpa using hi)] at q; cases q
    · rw [List.getElem?_set_ne hj] at q ⊢; exact S.val j d' q
  · by_cases hj : i = j
    · subst hj
      by_cases hi : i < ρ.length
      · rw [List.getElem?_set_self hi] at q; cases q
      · rw [List.getElem?_eq_none (by simpa using hi)] at q; cases q
    · rw [List.getElem?_set_ne hj] at q ⊢; exact S.own j b zs q
  · have n : ∀ (j : Nat) (zs : List D), (ρ.set i (some (.val d)))[j]? = some (some (.own b zs)) → ρ[j]? = some (some (.own b zs)) := fun j zs q => by
      by_cases hj : i = j
      · subst hj
        by_cases hi : i < ρ.length
        · rw [List.getElem?_set_self hi] at q; cases q
        · rw [List.getElem?_eq_none (by simpa using hi)] at q; cases q
      · rw [List.getElem?_set_ne hj] at q; exact q
    exact S.ne _ _ _ _ _ (n _ _ q1) (n _ _ q2)
def NotOwn (ρ : Ro) (a : Addr) : Prop := (∀ (i : Nat) (xs : List D), ρ[i]? ≠ some (some (.own a xs))) ∧ ¬ InBox ρ a
theorem Sim.notOwn (S : Sim K G F H σ ρ) {a : Addr} (h : H a = none) : NotOwn ρ a := ⟨fun i xs q => (by
  obtain ⟨_, _, _, vs, h4, _⟩ := S.own i a xs q
  rw [h] at h4
  cases h4), S.bx.fresh h⟩
theorem Sim.setOwn (S : Sim K G F H σ ρ) (i : Nat) {a : Addr} {vs : List V} {xs : List D} (hH : H a = some (.lst vs)) (hF : F a = none) (hG : G a = none) (hn : NotOwn ρ a) (r : Reps K F vs xs) :
    Sim K G F H (σ.set i (some (.ref a))) (ρ.set i (some (.own a xs))) := by
  have far : ∀ (j : Nat) (c : Cell), i ≠ j → (ρ.set i (some (.own a xs)))[j]? = some (some c) → ρ[j]? = some (some c) := fun j c hj q => by
    rw [List.getElem?_set_ne hj] at q; exact q
  have near : ∀ (c : Cell), (ρ.set i (some (.own a xs)))[i]? = some (some c) → c = .own a xs ∧ i < ρ.length := fun c q => by
    by_cases hi : i < ρ.length
    · rw [List.getElem?_set_self hi] at q; cases q; exact ⟨rfl, hi⟩
    · rw [List.getElem?_eq_none (by simpa using hi)] at q; cases q
  refine ⟨S.hF, S.hG, by simpa using S.len, fun j d' q => ?_, fun j b zs q => ?_, fun j k b zs ws q1 q2 => ?_, S.bx.set i _ (by simp) fun b zs z => by cases z; exact .inr hn.2⟩
  · by_cases hj : i = j
    · subst hj; exact nomatch (near _ q).1
    · obtain ⟨v, h1, h2⟩ := S.val j d' (far _ _ hj q)
      exact ⟨v, by rw [List.getElem?_set_ne hj]; exact h1, h2⟩
  · by_cases hj : i = j
    · subst hj
      obtain ⟨e, hi⟩ := near _ q
      cases e
      exact ⟨List.getElem?_set_self (by rw [S.len]; exact hi), hF, hG, vs, hH, r⟩
    · obtain ⟨h1, h2⟩ := S.own j b zs (far _ _ hj q)
      exact ⟨by rw [List.getElem?_set_ne hj]; exact h1, h2⟩
  · by_cases hj : i = j
    · subst hj
      by_cases hk : i = k
      · exact hk
      · have e := (near _ q1).1
        cases e
        exact absurd (far _ _ hk q2) (hn.1 _ _)
    · by_cases hk : i = k
      · subst hk
        have e := (near _ q2).1
        cases e
        exact absurd (far _ _ hj q1) (hn.1 _ _)
      · exact S.ne _ _ _ _ _ (far _ _ hj q1) (far _ _ hk q2)
theorem Sim.forget (S : Sim K G F H σ ρ) (i : Nat) (x : Option V) : Sim K G F H (σ.set i x) (ρ.set i none) := by
  have far : ∀ (j : Nat) (c : Cell), (ρ.set i none)[j]? = some (some c) → ρ[j]? = some (some c) ∧ i ≠ j := fun j c q => by
    by_cases hj : i = j
    · subst hj
      by_cases hi : i < ρ.length
      · rw [List.getElem?_set_self hi] at q; cases q
      · rw [List.getElem?_eq_none (by simpa using hi)] at q; cases q
    · rw [List.getElem?_set_ne hj] at q; exact ⟨q, hj⟩
  refine ⟨S.hF, S.hG, by simpa using S.len, fun j d' q => ?_, fun j b zs q => ?_, fun j k b zs ws q1 q2 => S.ne _ _ _ _ _ (far _ _ q1).1 (far _ _ q2).1, S.bx.set i x (by simp) (by simp)⟩
  · obtain ⟨q1, hj⟩ := far _ _ q
    rw [List.getElem?_set_ne hj]
    exact S.val j d' q1
  · obtain ⟨q1, hj⟩ := far _ _ q
    rw [List.getElem?_set_ne hj]
    exact S.own j b zs q1
theorem Sim.forget' (S : Sim K G F H σ ρ) (i : Nat) : Sim K G F H σ (ρ.set i none) := by
  have far : ∀ (j : Nat) (c : Cell), (ρ.set i none)[j]? = some (some c) → ρ[j]? = some (some c) := fun j c q => by
    by_cases hj : i = j
    · subst hj
      by_cases hi : i < ρ.length
      · rw [List.getElem?_set_self hi] at q; cases q
      · rw [List.getElem?_eq_none (by simpa using hi)] at q; cases q
    · rw [List.getElem?_set_ne hj] at q; exact q
  exact ⟨S.hF, S.hG, by simpa using S.len, fun j d' q => S.val j d' (far _ _ q), fun j b zs q => S.own j b zs (far _ _ q), fun j k b zs ws q1 q2 => S.ne _ _ _ _ _ (far _ _ q1) (far _ _ q2), S.bx.set' i (by simp) (by simp)⟩
theorem Sim.freeze (S : Sim K G F H σ ρ) {i : Nat} {a : Addr} {xs : List D} (e : ρ[i]? = some (some (.own a xs))) :
    ∃ F', Up G F F' ∧ Rep K F' (.ref a) (.lst xs) ∧ Sim K G F' H σ (ρ.set i (some (.val (.lst xs)))) := by
  obtain ⟨h1, h2, h3, vs, h4, h5⟩ := S.own i a xs e
  have hi : i < ρ.length := by
    rcases Nat.lt_or_ge i ρ.length with h | h
    · exact h
    · rw [List.getElem?_eq_none h] at e; cases e
  have sm : Same F (upd F a (.lst vs)) := same_new h2
  have rp : Rep K (upd F a (.lst vs)) (.ref a) (.lst xs) := .lst upd_same (h5.mono sm)
  refine ⟨upd F a (.lst vs), Up.new h2 h3, rp, fun b x q => ?_, S.hG.froz fun b x q => ?_, by simpa using S.len, fun j d q => ?_, fun j b zs q => ?_, fun j k b zs ws q1 q2 => ?_, S.bx.to sm (fun q m => ⟨by rw [upd_ne (S.bx.apart m e)]; exact (S.bx.free m).1, (S.bx.free m).2.1, rfl⟩) (fun j s q => ⟨(set_box (by simp) q).1, rfl⟩) fun j b zs q => (set_own q).elim (fun z => by cases z) fun q => .inl ⟨j, zs, q⟩⟩
  · by_cases n : b = a
    · subst n; rw [upd_same] at q; cases q; exact h4
    · rw [upd_ne n] at q; exact S.hF b x q
  · by_cases n : b = a
    · subst n; exact .inr ⟨vs, h4⟩
    · rw [upd_ne n] at q; exact .inl q
  · by_cases hj : i = j
    · subst hj
      rw [List.getElem?_set_self hi] at q
      cases q
      exact ⟨_, h1, rp⟩
    · rw [List.getElem?_set_ne hj] at q
      obtain ⟨v, g1, g2⟩ := S.val j d q
      exact ⟨v, g1, g2.mono sm⟩
  · by_cases hj : i = j
    · subst hj
      rw [List.getElem?_set_self hi] at q; cases q
    · rw [List.getElem?_set_ne hj] at q
      obtain ⟨g1, g2, g3, us, g4, g5⟩ := S.own j b zs q
      have n : b ≠ a := fun z => by subst z; exact hj (S.ne _ _ _ _ _ e q)
      exact ⟨g1, by rw [upd_ne n]; exact g2, g3, us, g4, g5.mono sm⟩
  · have n : ∀ (j : Nat) (zs : List D), (ρ.set i (some (.val (.lst xs))))[j]? = some (some (.own b zs)) → ρ[j]? = some (some (.own b zs)) := fun j zs q => by
      by_cases hj : i = j
      · subst hj; rw [List.getElem?_set_self hi] at q; cases q
      · rw [List.getElem?_set_ne hj] at q; exact q
    exact S.ne _ _ _ _ _ (n _ _ q1) (n _ _ q2)
end
end Pl
namespace Pl
open PySem PySem.Spec PyProof.Rows L2
variable [TJ]
abbrev TEp := Ro → (D → Ro → Prop) → Prop
abbrev TCp := Ro → (Cell → Ro → Prop) → Prop
abbrev TTp := Ro → (Bool → Ro → Prop) → Prop
abbrev TAp := Ro → (List D → Ro → Prop) → Prop
def SndE (K : PySem.W.Frag) (t : TE) (T : TEp) : Prop := ∀ (G F H : Hp) (σ : L2.St) (ρ : Ro) (Q : D → Ro → Prop) (R : VK), Sim K G F H σ ρ → T ρ Q →
  (∀ v d F' H' ρ', Up G F F' → Sim K G F' H' σ ρ' → Rep K F' v d → Q d ρ' → R v H') → t σ H R
def SndT (K : PySem.W.Frag) (t : TT) (T : TTp) : Prop := ∀ (G F H : Hp) (σ : L2.St) (ρ : Ro) (Q : Bool → Ro → Prop) (R : Bool → Hp → Prop), Sim K G F H σ ρ → T ρ Q →
  (∀ b F' H' ρ', Up G F F' → Sim K G F' H' σ ρ' → Q b ρ' → R b H') → t σ H R
def SndA (K : PySem.W.Frag) (t : TA) (T : TAp) : Prop := ∀ (G F H : Hp) (σ : L2.St) (ρ : Ro) (Q : List D → Ro → Prop) (R : List V → Hp → Prop), Sim K G F H σ ρ → T ρ Q →
  (∀ vs ds F' H' ρ', Up G F F' → Sim K G F' H' σ ρ' → Reps K F' vs ds → Q ds ρ' → R vs H') → t σ H R
def SndC (K : PySem.W.Frag) (t : TE) (T : TCp) : Prop := ∀ (G F H : Hp) (σ : L2.St) (ρ : Ro) (Q : Cell → Ro → Prop) (R : VK), Sim K G F H σ ρ → T ρ Q →
  (∀ v c F' H' ρ', Up G F F' → Sim K G F' H' (σ ++ [some v]) (ρ' ++ [some c]) → Q c ρ' → R v H') → t σ H R
structure PPE (X : Cx) (e : Expr) (t : TE) (T : TEp) : Prop where
  pe : PE X e t
  snd : SndE X.K t T
structure PPC (X : Cx) (e : Expr) (t : TE) (T : TCp) : Prop where
  pe : PE X e t
  snd : SndC X.K t T
structure PPT (X : Cx) (e : Expr) (t : TT) (T : TTp) : Prop where
  pt : PT X e t
  snd : SndT X.K t T
structure PPW (X : Cx) (e : Expr) (t : TT) (T : TTp) : Prop where
  pw : PW X e t
  snd : SndT X.K t T
structure PPA (X : Cx) (es : List Expr) (t : TA) (T : TAp) : Prop where
  pa : PA X es t
  snd : SndA X.K t T
inductive Res (K : PySem.W.Frag) (F H : Hp) (v : V) (d : D) : Hp → Hp → Prop
  | old : Rep K F v d → Res K F H v d F H
  | new {p : Addr} {o : HO} : H p = none → Rep K (upd F p o) v d → Res K F H v d (upd F p o) (upd H p o)
section
variable {K : PySem.W.Frag} {G F H F' H' : Hp} {σ : L2.St} {ρ : Ro} {v : V} {d : D}
theorem Sim.res (S : Sim K G F H σ ρ) (r : Res K F H v d F' H') : Up G F F' ∧ Sim K G F' H' σ ρ ∧ Rep K F' v d := by
  cases r with
  | old r => exact ⟨.refl _ _, S, r⟩
  | new h r => exact ⟨S.upNew h, S.new h, r⟩
theorem cut_last {ρ : Ro} {c : Cell} {i : Nat} {x : Cell} (h : (ρ ++ [some c])[i]? = some (some x)) : (ρ[i]? = some (some x) ∧ i < ρ.length) ∨ (i = ρ.length ∧ x = c) := by
  rcases Nat.lt_or_ge i ρ.length with q | q
  · rw [List.getElem?_append_left q] at h; exact .inl ⟨h, q⟩
  · rw [List.getElem?_append_right q] at h
    rcases Nat.eq_zero_or_pos (i - ρ.length) with z | z
    · rw [z] at h; simp at h; exact .inr ⟨by omega, h.symm⟩
    · rw [List.getElem?_eq_none (by simp; omega)] at h; cases h
theorem at_lt {ρ : Ro} {i : Nat} {c : Cell} (h : ρ[i]? = some (some c)) : i < ρ.length := by
  rcases Nat.lt_or_ge i ρ.length with q | q
  · exact q
  · rw [List.getElem?_eq_none q] at h; cases h
theorem at_more {ρ : Ro} {i : Nat} {x c : Cell} (h : ρ[i]? = some (some x)) : (ρ ++ [some c])[i]? = some (some x) := by rw [List.getElem?_append_left (at_lt h)]; exact h
theorem BxOk.push {G F H : Hp} {σ : L2.St} {ρ : Ro} {c : Cell} (B : BxOk K F G H σ ρ) (hl : σ.length = ρ.length) (v : Option V) (hc : ∀ t, c ≠ .box t) (ho : ∀ a xs, c = .own a xs → ¬ InBox ρ a) : BxOk K F G H (σ ++ [v]) (ρ ++ [some c]) :=
  B.to (.refl _) (fun p m => ⟨(B.free m).1, (B.free m).2.1, rfl⟩) (fun i s h => by
    rcases cut_last h with ⟨h, q⟩ | ⟨_, e⟩
    · exact ⟨h, by rw [List.getElem?_append_left (by rw [hl]; exact q)]⟩
    · exact absurd e.symm (hc s)) fun j a xs h => by
    rcases cut_last h with ⟨h, q⟩ | ⟨_, e⟩
    · exact .inl ⟨j, xs, h⟩
    · exact .inr (ho a xs e.symm)
theorem BxOk.drop {G F H : Hp} {σ : L2.St} {ρ : Ro} {c : Cell} {v : Option V} (B : BxOk K F G H (σ ++ [v]) (ρ ++ [some c])) (hl : σ.length = ρ.length) : BxOk K F G H σ ρ :=
  B.to (.refl _) (fun p m => ⟨(B.free m).1, (B.free m).2.1, rfl⟩) (fun i s h => ⟨at_more h, by rw [List.getElem?_append_left (by rw [hl]; exact at_lt h)]⟩) fun j a xs h => .inl ⟨j, xs, at_more h⟩
theorem Sim.drop {c : Cell} (S : Sim K G F H (σ ++ [some v]) (ρ ++ [some c])) : Sim K G F H σ ρ := by
  have hl : σ.length = ρ.length := by have := S.len; simpa using this
  have ix : ∀ {i : Nat} {c : Cell}, ρ[i]? = some (some c) → i < ρ.length := fun {i c} h => by
    rcases Nat.lt_or_ge i ρ.length with q | q
    · exact q
    · rw [List.getElem?_eq_none q] at h; cases h
  have up : ∀ {i : Nat} {x : Cell}, ρ[i]? = some (some x) → (ρ ++ [some c])[i]? = some (some x) := fun {i x} h => by
    rw [List.getElem?_append_left (ix h)]; exact h
  refine ⟨S.hF, S.hG, hl, fun i d h => ?_, fun i a xs h => ?_, fun i j a xs ys h1 h2 => S.ne i j a xs ys (up h1) (up h2), S.bx.drop hl⟩
  · obtain ⟨v, h1, h2⟩ := S.val i d (up h)
    rw [List.getElem?_append_left (by rw [hl]; exact ix h)] at h1
    exact ⟨v, h1, h2⟩
  · obtain ⟨h1, h2⟩ := S.own i a xs (up h)
    rw [List.getElem?_append_left (by rw [hl]; exact ix h)] at h1
    exact ⟨h1, h2⟩
theorem Sim.lastVal (S : Sim K G F H (σ ++ [some v]) (ρ ++ [some (.val d)])) : Rep K F v d := by
  have hl : σ.length = ρ.length := by have := S.len; simpa using this
  obtain ⟨u, h1, h2⟩ := S.val ρ.length d (by simp)
  rw [← hl] at h1
  simp at h1
  subst h1
  exact h2
theorem Sim.lastOwn {a : Addr} {xs : List D} (S : Sim K G F H (σ ++ [some v]) (ρ ++ [some (.own a xs)])) : v = .ref a ∧ F a = none ∧ G a = none ∧ NotOwn ρ a ∧ ∃ vs, H a = some (.lst vs) ∧ Reps K F vs xs := by
  have hl : σ.length = ρ.length := by have := S.len; simpa using this
  obtain ⟨h1, h2, h3, h4⟩ := S.own ρ.length a xs (by simp)
  rw [← hl] at h1
  simp at h1
  refine ⟨h1, h2, h3, ⟨fun i ys h => ?_, fun ⟨i, s, m1, m2⟩ => S.bx.bo ρ.length a xs (by simp) ⟨i, s, at_more m1, m2⟩⟩, h4⟩
  have hi : i < ρ.length := by
    rcases Nat.lt_or_ge i ρ.length with q | q
    · exact q
    · rw [List.getElem?_eq_none q] at h; cases h
  have := S.ne i ρ.length a ys xs (by rw [List.getElem?_append_left hi]; exact h) (by simp)
  omega
theorem Sim.pushVal (S : Sim K G F H σ ρ) (r : Rep K F v d) : Sim K G F H (σ ++ [some v]) (ρ ++ [some (.val d)]) := by
  have cut : ∀ {i : Nat} {x : Cell}, (ρ ++ [some (.val d)])[i]? = some (some x) → (ρ[i]? = some (some x) ∧ i < ρ.length) ∨ (i = ρ.length ∧ x = .val d) := fun {i x} h => by
    rcases Nat.lt_or_ge i ρ.length with q | q
    · rw [List.getElem?_append_left q] at h; exact .inl ⟨h, q⟩
    · rw [List.getElem?_append_right q] at h
      rcases Nat.eq_zero_or_pos (i - ρ.length) with z | z
      · rw [z] at h; simp at h; exact .inr ⟨by omega, h.symm⟩
      · rw [List.getElem?_eq_none (by simp; omega)] at h; cases h
  refine ⟨S.hF, S.hG, by simp [S.len], fun i d' h => ?_, fun i a xs h => ?_, fun i j a xs ys h1 h2 => ?_, S.bx.push S.len _ (by simp) (by simp)⟩
  · rcases cut h with ⟨h, q⟩ | ⟨rfl, e⟩
    · obtain ⟨u, g1, g2⟩ := S.val i d' h
      exact ⟨u, by rw [List.getElem?_append_left (by rw [S.len]; exact q)]; exact g1, g2⟩
    · cases e
      exact ⟨v, by rw [← S.len]; simp, r⟩
  · rcases cut h with ⟨h, q⟩ | ⟨_, e⟩
    · obtain ⟨g1, g2⟩ := S.own i a xs h
      exact ⟨by rw [List.getElem?_append_left (by rw [S.len]; exact q)]; exact g1, g2⟩
    · cases e
  · rcases cut h1 with ⟨h1, _⟩ | ⟨_, e⟩
    · rcases cut h2 with ⟨h2, _⟩ | ⟨_, e⟩
      · exact S.ne i j a xs ys h1 h2
      · cases e
    · cases e
theorem Sim.pushOwn (S : Sim K G F H σ ρ) {a : Addr} {vs : List V} {xs : List D} (hH : H a = some (.lst vs)) (hF : F a = none) (hG : G a = none) (hn : NotOwn ρ a) (r : Reps K F vs xs) :
    Sim K G F H (σ ++ [some (.ref a)]) (ρ ++ [some (.own a xs)]) := by
  have cut : ∀ {i : Nat} {x : Cell}, (ρ ++ [some (.own a xs)])[i]? = some (some x) → (ρ[i]? = some (some x) ∧ i < ρ.length) ∨ (i = ρ.length ∧ x = .own a xs) := fun {i x} h => by
    rcases Nat.lt_or_ge i ρ.length with q | q
    · rw [List.getElem?_append_left q] at h; exact .inl ⟨h, q⟩
    · rw [List.getElem?_append_right q] at h
      rcases Nat.eq_zero_or_pos (i - ρ.length) with z | z
      · rw [z] at h; simp at h; exact .inr ⟨by omega, h.symm⟩
      · rw [List.getElem?_eq_none (by simp; omega)] at h; cases h
  refine ⟨S.hF, S.hG, by simp [S.len], fun i d' h => ?_, fun i b ys h => ?_, fun i j b ys zs h1 h2 => ?_, S.bx.push S.len _ (by simp) fun b ys e => by cases e; exact hn.2⟩
  · rcases cut h with ⟨h, q⟩ | ⟨_, e⟩
    · obtain ⟨u, g1, g2⟩ := S.val i d' h
      exact ⟨u, by rw [List.getElem?_append_left (by rw [S.len]; exact q)]; exact g1, g2⟩
    · cases e
  · rcases cut h with ⟨h, q⟩ | ⟨rfl, e⟩
    · obtain ⟨g1, g2⟩ := S.own i b ys h
      exact ⟨by rw [List.getElem?_append_left (by rw [S.len]; exact q)]; exact g1, g2⟩
    · cases e
      exact ⟨by rw [← S.len]; simp, hF, hG, vs, hH, r⟩
  · rcases cut h1 with ⟨h1, _⟩ | ⟨e1, e⟩
    · rcases cut h2 with ⟨h2, _⟩ | ⟨_, e⟩
      · exact S.ne i j b ys zs h1 h2
      · cases e
        exact absurd h1 (hn.1 _ _)
    · cases e
      rcases cut h2 with ⟨h2, _⟩ | ⟨e2, _⟩
      · exact absurd h2 (hn.1 _ _)
      · omega
theorem Sim.lastBox {s : Sh} (S : Sim K G F H (σ ++ [some v]) (ρ ++ [some (.box s)])) : v = .ref s.root ∧ (∀ p ∈ s.foot, F p = none ∧ G p = none) ∧ s.At K F H ∧ ∀ p ∈ s.foot, NotOwn ρ p := by
  have hl : σ.length = ρ.length := by have := S.len; simpa using this
  obtain ⟨h1, h2, h3⟩ := S.bx.box ρ.length s (by simp)
  rw [← hl] at h1
  simp at h1
  refine ⟨h1, h2, h3, fun p m => ⟨fun i ys h => ?_, fun ⟨i, t, m1, m2⟩ => ?_⟩⟩
  · exact S.bx.bo i p ys (at_more h) ⟨ρ.length, s, by simp, m⟩
  · have := S.bx.bb i ρ.length t s p (at_more m1) (by simp) m2 m
    have := at_lt m1
    omega
theorem Sim.pushBox (S : Sim K G F H σ ρ) {s : Sh} (hf : ∀ p ∈ s.foot, F p = none ∧ G p = none) (ha : s.At K F H) (hn : ∀ p ∈ s.foot, NotOwn ρ p) : Sim K G F H (σ ++ [some (.ref s.root)]) (ρ ++ [some (.box s)]) := by
  refine ⟨S.hF, S.hG, by simp [S.len], fun i d' h => ?_, fun i b ys h => ?_, fun i j b ys zs h1 h2 => ?_, fun i t h => ?_, fun i j t u p h1 h2 m1 m2 => ?_, fun j a xs h ⟨i, t, h1, m⟩ => ?_⟩
  · rcases cut_last h with ⟨h, q⟩ | ⟨_, e⟩
    · obtain ⟨u, g1, g2⟩ := S.val i d' h
      exact ⟨u, by rw [List.getElem?_append_left (by rw [S.len]; exact q)]; exact g1, g2⟩
    · cases e
  · rcases cut_last h with ⟨h, q⟩ | ⟨_, e⟩
    · obtain ⟨g1, g2⟩ := S.own i b ys h
      exact ⟨by rw [List.getElem?_append_left (by rw [S.len]; exact q)]; exact g1, g2⟩
    · cases e
  · rcases cut_last h1 with ⟨h1, _⟩ | ⟨_, e⟩
    · rcases cut_last h2 with ⟨h2, _⟩ | ⟨_, e⟩
      · exact S.ne i j b ys zs h1 h2
      · cases e
    · cases e
  · rcases cut_last h with ⟨h, q⟩ | ⟨rfl, e⟩
    · obtain ⟨g1, g2⟩ := S.bx.box i t h
      exact ⟨by rw [List.getElem?_append_left (by rw [S.len]; exact q)]; exact g1, g2⟩
    · cases e
      exact ⟨by rw [← S.len]; simp, hf, ha⟩
  · rcases cut_last h1 with ⟨h1, _⟩ | ⟨e1, e⟩
    · rcases cut_last h2 with ⟨h2, _⟩ | ⟨_, e⟩
      · exact S.bx.bb i j t u p h1 h2 m1 m2
      · cases e
        exact absurd ⟨i, t, h1, m1⟩ (hn p m2).2
    · cases e
      rcases cut_last h2 with ⟨h2, _⟩ | ⟨e2, _⟩
      · exact absurd ⟨j, u, h2, m2⟩ (hn p m1).2
      · omega
  · rcases cut_last h with ⟨h, _⟩ | ⟨_, e⟩
    · rcases cut_last h1 with ⟨h1, _⟩ | ⟨_, e⟩
      · exact S.bx.bo j a xs h ⟨i, t, h1, m⟩
      · cases e
        exact (hn a m).1 j xs h
    · cases e
theorem Sim.setBox (S : Sim K G F H σ ρ) (i : Nat) {s : Sh} (hf : ∀ p ∈ s.foot, F p = none ∧ G p = none) (ha : s.At K F H) (hn : ∀ p ∈ s.foot, NotOwn ρ p) : Sim K G F H (σ.set i (some (.ref s.root))) (ρ.set i (some (.box s))) := by
  have far : ∀ (j : Nat) (c : Cell), i ≠ j → (ρ.set i (some (.box s)))[j]? = some (some c) → ρ[j]? = some (some c) := fun j c hj q => by
    rw [List.getElem?_set_ne hj] at q; exact q
  have near : ∀ (c : Cell), (ρ.set i (some (.box s)))[i]? = some (some c) → c = .box s ∧ i < ρ.length := fun c q => by
    by_cases hi : i < ρ.length
    · rw [List.getElem?_set_self hi] at q; cases q; exact ⟨rfl, hi⟩
    · rw [List.getElem?_eq_none (by simpa using hi)] at q; cases q
  have cut : ∀ {j : Nat} {x : Cell}, (ρ.set i (some (.box s)))[j]? = some (some x) → (ρ[j]? = some (some x) ∧ i ≠ j) ∨ (j = i ∧ x = .box s ∧ i < ρ.length) := fun {j x} h => by
    by_cases hj : i = j
    · subst hj; exact .inr ⟨rfl, near _ h⟩
    · exact .inl ⟨far _ _ hj h, hj⟩
  refine ⟨S.hF, S.hG, by simpa using S.len, fun j d' h => ?_, fun j b ys h => ?_, fun j k b ys zs h1 h2 => ?_, fun j t h => ?_, fun j k t u p h1 h2 m1 m2 => ?_, fun j a xs h ⟨k, t, h1, m⟩ => ?_⟩
  · rcases cut h with ⟨h, q⟩ | ⟨_, e, _⟩
    · obtain ⟨u, g1, g2⟩ := S.val j d' h
      exact ⟨u, by rw [List.getElem?_set_ne q]; exact g1, g2⟩
    · cases e
  · rcases cut h with ⟨h, q⟩ | ⟨_, e, _⟩
    · obtain ⟨g1, g2⟩ := S.own j b ys h
      exact ⟨by rw [List.getElem?_set_ne q]; exact g1, g2⟩
    · cases e
  · rcases cut h1 with ⟨h1, _⟩ | ⟨_, e, _⟩
    · rcases cut h2 with ⟨h2, _⟩ | ⟨_, e, _⟩
      · exact S.ne j k b ys zs h1 h2
      · cases e
    · cases e
  · rcases cut h with ⟨h, q⟩ | ⟨rfl, e, hi⟩
    · obtain ⟨g1, g2⟩ := S.bx.box j t h
      exact ⟨by rw [List.getElem?_set_ne q]; exact g1, g2⟩
    · cases e
      exact ⟨List.getElem?_set_self (by rw [S.len]; exact hi), hf, ha⟩
  · rcases cut h1 with ⟨h1, _⟩ | ⟨e1, e, _⟩
    · rcases cut h2 with ⟨h2, _⟩ | ⟨_, e, _⟩
      · exact S.bx.bb j k t u p h1 h2 m1 m2
      · cases e
        exact absurd ⟨j, t, h1, m1⟩ (hn p m2).2
    · cases e
      rcases cut h2 with ⟨h2, _⟩ | ⟨e2, _⟩
      · exact absurd ⟨k, u, h2, m2⟩ (hn p m1).2
      · omega
  · rcases cut h with ⟨h, _⟩ | ⟨_, e, _⟩
    · rcases cut h1 with ⟨h1, _⟩ | ⟨_, e, _⟩
      · exact S.bx.bo j a xs h ⟨k, t, h1, m⟩
      · cases e
        exact (hn a m).1 j xs h
    · cases e
theorem Sim.store {c : Cell} (S : Sim K G F H (σ ++ [some v]) (ρ ++ [some c])) (i : Nat) : Sim K G F H (σ.set i (some v)) (ρ.set i (some c)) := by
  cases c with
  | val d => exact S.drop.setVal i S.lastVal
  | own a xs =>
    obtain ⟨rfl, h2, h3, h4, vs, h5, h6⟩ := S.lastOwn
    exact S.drop.setOwn i h5 h2 h3 h4 h6
  | box s =>
    obtain ⟨rfl, h2, h3, h4⟩ := S.lastBox
    exact S.drop.setBox i h2 h3 h4
def Cell.froz : Cell → D
  | .val d => d
  | .own _ xs => .lst xs
  | .box s => .adr s.root
theorem Sim.froz {c : Cell} (S : Sim K G F H (σ ++ [some v]) (ρ ++ [some c])) : ∃ F', Up G F F' ∧ Sim K G F' H σ ρ ∧ Rep K F' v c.froz := by
  cases c with
  | val d => exact ⟨F, .refl _ _, S.drop, S.lastVal⟩
  | own a xs =>
    obtain ⟨rfl, _⟩ := S.lastOwn
    obtain ⟨F', u, r, S'⟩ := S.freeze (i := ρ.length) (a := a) (xs := xs) (by simp)
    refine ⟨F', u, ?_, r⟩
    rw [List.set_append_right _ _ (Nat.le_refl _)] at S'
    simp at S'
    exact S'.drop
  | box s =>
    obtain ⟨rfl, _⟩ := S.lastBox
    exact ⟨F, .refl _ _, S.drop, .adr _⟩
end
section
variable {X : Cx}
def pFrz (T : TCp) : TEp := fun ρ Q => T ρ fun c ρ' => Q c.froz ρ'
def pVal (T : TEp) : TCp := fun ρ Q => T ρ fun d ρ' => Q (.val d) ρ'
theorem ppe_frz {e : Expr} {t : TE} {T : TCp} (h : PPC X e t T) : PPE X e t (pFrz T) := ⟨h.pe, fun G F H σ ρ Q R S hT k => h.snd G F H σ ρ _ R S hT fun v c F' H' ρ' u S' q => by
  obtain ⟨F2, u2, S2, r2⟩ := S'.froz
  exact k v _ F2 H' ρ' (u.trans u2) S2 r2 q⟩
theorem ppc_val {e : Expr} {t : TE} {T : TEp} (h : PPE X e t T) : PPC X e t (pVal T) := ⟨h.pe, fun G F H σ ρ Q R S hT k => h.snd G F H σ ρ _ R S hT fun v d F' H' ρ' u S' r q => k v _ F' H' ρ' u (S'.pushVal r) q⟩
def pVar (i : Nat) : TEp := fun ρ Q => match ρ[i]? with
  | some (some (.val d)) => Q d ρ
  | some (some (.own _ xs)) => Q (.lst xs) (ρ.set i (some (.val (.lst xs))))
  | _ => False
theorem ppe_var (i : Nat) {x : Str} {pos : Pos} (hN : X.N[i]? = some x := by rfl) (hv : Vis X.env.scope x := by first | exact Or.inl rfl | exact Or.inr (Or.inl rfl) | exact Or.inr (Or.inr rfl)) (hd : (x == ("__debug__" : Str)) = false := by decide)
    (hcd : (x == ("__classdict__" : Str)) = false := by decide) : PPE X (.Name x pos) (tVar i) (pVar i) := ⟨pe_var hN hv hd hcd, fun G F H σ ρ Q R S hT k => by
  unfold pVar at hT
  split at hT
  · rename_i d e
    obtain ⟨v, h1, h2⟩ := S.val i d e
    exact ⟨v, h1, k v d F H ρ (.refl _ _) S h2 hT⟩
  · rename_i a xs e
    obtain ⟨F', u, r, S'⟩ := S.freeze e
    exact ⟨.ref a, (S.own i a xs e).1, k _ _ F' H _ u S' r hT⟩
  · exact hT.elim⟩
def pMove (i : Nat) : TCp := fun ρ Q => match ρ[i]? with
  | some (some (.val d)) => Q (.val d) ρ
  | some (some (.own a xs)) => Q (.own a xs) (ρ.set i none)
  | some (some (.box s)) => Q (.box s) (ρ.set i none)
  | _ => False
theorem ppc_move (i : Nat) {x : Str} {pos : Pos} (hN : X.N[i]? = some x := by rfl) (hv : Vis X.env.scope x := by first | exact Or.inl rfl | exact Or.inr (Or.inl rfl) | exact Or.inr (Or.inr rfl)) (hd : (x == ("__debug__" : Str)) = false := by decide)
    (hcd : (x == ("__classdict__" : Str)) = false := by decide) : PPC X (.Name x pos) (tVar i) (pMove i) := ⟨pe_var hN hv hd hcd, fun G F H σ ρ Q R S hT k => by
  unfold pMove at hT
  split at hT
  · rename_i d e
    obtain ⟨v, h1, h2⟩ := S.val i d e
    exact ⟨v, h1, k v _ F H ρ (.refl _ _) (S.pushVal h2) hT⟩
  · rename_i a xs e
    obtain ⟨h1, h2, h3, vs, h4, h5⟩ := S.own i a xs e
    refine ⟨.ref a, h1, k _ _ F H _ (.refl _ _) ((S.forget' i).pushOwn h4 h2 h3 ⟨fun j ys q => ?_, fun ⟨j, s, m1, m2⟩ => S.bx.bo i a xs e ⟨j, s, (set_box (by simp) m1).1, m2⟩⟩ h5) hT⟩
    by_cases hj : i = j
    · subst hj
      by_cases hi : i < ρ.length
      · rw [List.getElem?_set_self hi] at q; cases q
      · rw [List.getElem?_eq_none (by simpa using hi)] at q; cases q
    · rw [List.getElem?_set_ne hj] at q
      exact hj (S.ne _ _ _ _ _ e q)
  · rename_i s e
    obtain ⟨h1, h2, h3⟩ := S.bx.box i s e
    refine ⟨.ref s.root, h1, k _ _ F H _ (.refl _ _) ((S.forget' i).pushBox h2 h3 fun p m => ⟨fun j ys q => ?_, fun ⟨j, t, m1, m2⟩ => ?_⟩) hT⟩
    · exact S.bx.bo j p ys ((set_own q).elim (fun z => by cases z) id) ⟨i, s, e, m⟩
    · obtain ⟨q1, q2⟩ := set_box (by simp) m1
      exact q2 (S.bx.bb i j s t p e q1 m m2)
  · exact hT.elim⟩
def pC (d : D) : TEp := fun ρ Q => Q d ρ
theorem snd_c {K : PySem.W.Frag} {v : V} {d : D} (h : ∀ F, Rep K F v d) : SndE K (tC v) (pC d) := fun G F H σ ρ Q R S hT k => k v d F H ρ (.refl _ _) S (h F) hT
theorem ppe_int {i j pos} : PPE X (.Constant (.int i) j pos) (tC (.int i)) (pC (.int i)) := ⟨pe_int, snd_c fun _ => .int i⟩
theorem ppe_bl {b j pos} : PPE X (.Constant (.bool b) j pos) (tC (.bl b)) (pC (.bl b)) := ⟨pe_bl, snd_c fun _ => .bl b⟩
theorem ppe_non {j pos} : PPE X (.Constant .none j pos) (tC .non) (pC .non) := ⟨pe_non, snd_c fun _ => .non⟩
theorem ppe_str {x j pos} : PPE X (.Constant (.str x) j pos) (tC (.str x)) (pC (.str x)) := ⟨pe_str, snd_c fun _ => .str x⟩
abbrev F2 := D → D → (D → Prop) → Prop
abbrev F1 := D → (D → Prop) → Prop
def OpP (K : PySem.W.Frag) (r : R2) (f : F2) : Prop := ∀ (F H : Hp) (x y : V) (dx dy : D) (Q : D → Prop) (R : VK), Same F H → Rep K F x dx → Rep K F y dy → f dx dy Q →
  (∀ v d F' H', Res K F H v d F' H' → Q d → R v H') → r x y H R
def UnP (K : PySem.W.Frag) (r : V → Hp → VK → Prop) (f : F1) : Prop := ∀ (F H : Hp) (x : V) (dx : D) (Q : D → Prop) (R : VK), Same F H → Rep K F x dx → f dx Q →
  (∀ v d F' H', Res K F H v d F' H' → Q d → R v H') → r x H R
def CallP (K : PySem.W.Frag) (r : List V → Hp → VK → Prop) (f : List D → (D → Prop) → Prop) : Prop := ∀ (F H : Hp) (xs : List V) (ds : List D) (Q : D → Prop) (R : VK), Same F H → Reps K F xs ds → f ds Q →
  (∀ v d F' H', Res K F H v d F' H' → Q d → R v H') → r xs H R
def pOp (f : F2) (Ta Tb : TEp) : TEp := fun ρ Q => Ta ρ fun x ρ1 => Tb ρ1 fun y ρ2 => f x y fun z => Q z ρ2
def pUn (f : F1) (Ta : TEp) : TEp := fun ρ Q => Ta ρ fun x ρ1 => f x fun z => Q z ρ1
theorem snd_op {K : PySem.W.Frag} {r : R2} {f : F2} {ta tb : TE} {Ta Tb : TEp} (hp : OpP K r f) (ha : SndE K ta Ta) (hb : SndE K tb Tb) : SndE K (tOp r ta tb) (pOp f Ta Tb) := fun G F H σ ρ Q R S hT k =>
  ha G F H σ ρ _ _ S hT fun x dx F1 H1 ρ1 u1 S1 r1 h1 => hb G F1 H1 σ ρ1 _ _ S1 h1 fun y dy F2 H2 ρ2 u2 S2 r2 h2 =>
    hp F2 H2 x y dx dy _ _ S2.hF (r1.mono u2.ex) r2 h2 fun v d F3 H3 res q => by
      obtain ⟨u3, S3, r3⟩ := S2.res res
      exact k v d F3 H3 ρ2 ((u1.trans u2).trans u3) S3 r3 q
theorem snd_un {K : PySem.W.Frag} {r : V → Hp → VK → Prop} {f : F1} {ta : TE} {Ta : TEp} (hp : UnP K r f) (ha : SndE K ta Ta) : SndE K (tUn r ta) (pUn f Ta) := fun G F H σ ρ Q R S hT k =>
  ha G F H σ ρ _ _ S hT fun x dx F1 H1 ρ1 u1 S1 r1 h1 => hp F1 H1 x dx _ _ S1.hF r1 h1 fun v d F3 H3 res q => by
      obtain ⟨u3, S3, r3⟩ := S1.res res
      exact k v d F3 H3 ρ1 (u1.trans u3) S3 r3 q
variable {a b c : Expr} {ta tb tc : TE} {Ta Tb Tc : TEp} {pos : Pos}
theorem ppe_op {op : Operator} {r : R2} {f : F2} (ho : OpR X (binaryOp op) r) (hp : OpP X.K r f) (ha : PPE X a ta Ta) (hb : PPE X b tb Tb) : PPE X (.BinOp a op b pos) (tOp r ta tb) (pOp f Ta Tb) := ⟨pe_op ho ha.pe hb.pe, snd_op hp ha.snd hb.snd⟩
theorem ppe_un {op : UnaryOp} {r : V → Hp → VK → Prop} {f : F1} (ho : UnR X (unaryOp op) r) (hp : UnP X.K r f) (ha : PPE X a ta Ta) : PPE X (.UnaryOp op a pos) (tUn r ta) (pUn f Ta) := ⟨pe_un ho ha.pe, snd_un hp ha.snd⟩
theorem OpP.or {K : PySem.W.Frag} {r r' : R2} {f : F2} (h : ∀ (F H : Hp) (x y : V) (dx dy : D) (Q : D → Prop) (R : VK), Same F H → Rep K F x dx → Rep K F y dy → f dx dy Q →
  (∀ v d F' H', Res K F H v d F' H' → Q d → R v H') → r x y H R ∨ r' x y H R) : OpP K (fun x y H Q => r x y H Q ∨ r' x y H Q) f := h
def fAdd : F2 := fun x y Q => match x, y with
  | .int i, .int j => Q (.int (i + j))
  | .str i, .str j => i.length + j.length ≤ sizeLine ∧ Q (.str (i ++ j))
  | .lst xs, .lst ys => xs.length + ys.length ≤ sizeLine ∧ Q (.lst (xs ++ ys))
  | .tup xs, .tup ys => xs.length + ys.length ≤ sizeLine ∧ Q (.tup (xs ++ ys))
  | _, _ => False
def rAddA (K : PySem.W.Frag) : R2 := fun x y H Q => (rI0 (fun i j => .int (i + j)) x y H Q ∨ (∃ i j, x = .str i ∧ y = .str j ∧ i.length + j.length ≤ sizeLine ∧ Q (.str (i ++ j)) H)) ∨ (rCat x y H Q ∨ rCatA K x y H Q)
theorem opr_add : OpR X (binaryOp .Add) (rAddA X.K) := OpR.or (OpR.or op_add op_add_str) (OpR.or op_cat op_catA)
theorem opp_add : OpP X.K (rAddA X.K) fAdd := fun F H x y dx dy Q R hs rx ry hf k => by
  cases rx with
  | int i =>
    cases ry with
    | int j => exact .inl (.inl ⟨i, j, rfl, rfl, k _ _ _ _ (.old (.int _)) hf⟩)
    | _ => exact hf.elim
  | str i =>
    cases ry with
    | str j => exact .inl (.inr ⟨i, j, rfl, rfl, hf.1, k _ _ _ _ (.old (.str _)) hf.2⟩)
    | _ => exact hf.elim
  | lst h1 r1 =>
    cases ry with
    | lst h2 r2 =>
      refine .inr (.inl ⟨_, _, _, _, rfl, rfl, hs _ _ h1, hs _ _ h2, by rw [r1.length, r2.length]; exact hf.1, fun p hp => ?_⟩)
      have hn : F p = none := hs.free hp
      exact k _ _ _ _ (.new hp (.lst upd_same ((r1.mono (same_new hn)).append (r2.mono (same_new hn))))) hf.2
    | _ => exact hf.elim
  | @tup _ vs xs h1 r1 =>
    cases ry with
    | @tup _ ws ys h2 r2 =>
      refine .inr (.inr ⟨_, _, _, _, rfl, rfl, SqT.of (hs _ _ h1), SqT.of (hs _ _ h2), by rw [r1.length, r2.length]; exact hf.1, fun e => ?_, fun e e2 => ?_, fun e e2 p hp => ?_⟩)
      · have := r1.length; subst e; cases r1; exact k _ _ _ _ (.old (.tup h2 r2)) hf.2
      · subst e2; cases r2; refine k _ _ _ _ (.old (.tup h1 r1)) ?_; have := hf.2; simpa using this
      · have hn : F p = none := hs.free hp
        exact k _ _ _ _ (.new hp (.tup upd_same ((r1.mono (same_new hn)).append (r2.mono (same_new hn))))) hf.2
    | _ => exact hf.elim
  | non => exact hf.elim
  | bl _ => exact hf.elim
  | scr _ => exact hf.elim
  | adr _ => exact hf.elim
  | exc _ _ _ _ => exact hf.elim
def f2I (C : Int → Int → Prop) (g : Int → Int → D) : F2 := fun x y Q => match x, y with
  | .int i, .int j => C i j ∧ Q (g i j)
  | _, _ => False
def f2I0 (g : Int → Int → D) : F2 := fun x y Q => match x, y with
  | .int i, .int j => Q (g i j)
  | _, _ => False
theorem opp_I {C C' : Int → Int → Prop} {g : Int → Int → V} {g' : Int → Int → D} (hc : ∀ i j, C' i j → C i j) (h : ∀ F i j, Rep X.K F (g i j) (g' i j)) : OpP X.K (rI C g) (f2I C' g') := fun F H x y dx dy Q R hs rx ry hf k => by
  cases rx with
  | int i =>
    cases ry with
    | int j => exact ⟨i, j, rfl, rfl, hc _ _ hf.1, k _ _ _ _ (.old (h F i j)) hf.2⟩
    | _ => exact hf.elim
  | _ => exact hf.elim
theorem opp_I0 {g : Int → Int → V} {g' : Int → Int → D} (h : ∀ F i j, Rep X.K F (g i j) (g' i j)) : OpP X.K (rI0 g) (f2I0 g') := fun F H x y dx dy Q R hs rx ry hf k => by
  cases rx with
  | int i =>
    cases ry with
    | int j => exact ⟨i, j, rfl, rfl, k _ _ _ _ (.old (h F i j)) hf⟩
    | _ => exact hf.elim
  | _ => exact hf.elim
def fSub : F2 := f2I0 fun i j => .int (i - j)
def fMod : F2 := f2I (fun _ j => 0 < j) fun i j => .int (i % j)
def fDiv : F2 := f2I (fun _ j => 0 < j ∧ j < 2 ^ 64) fun i j => .int (i / j)
def fMulI : F2 := f2I CMul fun i j => .int (i * j)
theorem ppe_add (ha : PPE X a ta Ta) (hb : PPE X b tb Tb) : PPE X (.BinOp a .Add b pos) (tOp (rAddA X.K) ta tb) (pOp fAdd Ta Tb) := ppe_op opr_add opp_add ha hb
theorem ppe_sub (ha : PPE X a ta Ta) (hb : PPE X b tb Tb) : PPE X (.BinOp a .Sub b pos) (tOp (rI0 fun i j => .int (i - j)) ta tb) (pOp fSub Ta Tb) := ppe_op op_sub (opp_I0 fun _ _ _ => .int _) ha hb
theorem ppe_mul (ha : PPE X a ta Ta) (hb : PPE X b tb Tb) : PPE X (.BinOp a .Mult b pos) (tOp (rI CMul fun i j => .int (i * j)) ta tb) (pOp fMulI Ta Tb) := ppe_op op_mul (opp_I (fun _ _ h => h) fun _ _ _ => .int _) ha hb
theorem ppe_mod (ha : PPE X a ta Ta) (hb : PPE X b tb Tb) : PPE X (.BinOp a .Mod b pos) (tOp (rI (fun _ j => 0 < j) fun i j => .int (i % j)) ta tb) (pOp fMod Ta Tb) := ppe_op op_mod (opp_I (fun _ _ h => h) fun _ _ _ => .int _) ha hb
theorem ppe_div (ha : PPE X a ta Ta) (hb : PPE X b tb Tb) : PPE X (.BinOp a .FloorDiv b pos) (tOp (rI CDivW fun i j => .int (i / j)) ta tb) (pOp fDiv Ta Tb) :=
  ppe_op op_fdivW (opp_I (fun _ _ h => wide_div (b := 64) h.1 (by have := h.1; have := h.2; omega) (by decide) (by decide)) fun _ _ _ => .int _) ha hb
theorem ppe_powc {i j : Int} {u v pa pb} (n : Int) (h : 0 ≤ j ∧ j ≤ 1000000 ∧ i.natAbs < 2 ^ 64 := by decide) (hn : i ^ j.toNat = n := by decide) : PPE X (.BinOp (.Constant (.int i) u pa) .Pow (.Constant (.int j) v pb) pos) (tOp (rI CPow fun i j => .int (i ^ j.toNat)) (tC (.int i)) (tC (.int j))) (pC (.int n)) :=
  ⟨pe_op op_pow pe_int pe_int, fun G F H σ ρ Q R S hT k => ⟨i, j, rfl, rfl, h, by show R (V.int (i ^ j.toNat)) H; rw [hn]; exact k _ _ F H ρ (.refl _ _) S (.int n) hT⟩⟩
def fRep : F2 := fun x y Q => match x, y with
  | .lst xs, .int k => 0 ≤ k ∧ k ≤ 1000 ∧ xs.length ≤ 1000 ∧ Q (.lst (List.replicate k.toNat xs).flatten)
  | _, _ => False
theorem Reps.rep {K : PySem.W.Frag} {F : Hp} {vs : List V} {ds : List D} (h : Reps K F vs ds) : ∀ n : Nat, Reps K F (List.replicate n vs).flatten (List.replicate n ds).flatten
  | 0 => .nil
  | n + 1 => by
    rw [List.replicate_succ, List.replicate_succ, List.flatten_cons, List.flatten_cons]
    exact h.append (Reps.rep h n)
theorem ppe_rep (ha : PPE X a ta Ta) (hb : PPE X b tb Tb) : PPE X (.BinOp a .Mult b pos) (tOp rRep ta tb) (pOp fRep Ta Tb) := ppe_op op_rep (fun F H x y dx dy Q R hs rx ry hf k => by
  cases rx with
  | @lst a vs xs h1 r1 =>
    cases ry with
    | int n =>
      obtain ⟨f1, f2, f3, f4⟩ := hf
      refine ⟨_, _, _, rfl, rfl, hs _ _ h1, by omega, by omega, ?_, fun p hp => ?_⟩
      · have e1 : vs.length ≤ 1000 := by rw [r1.length]; exact f3
        have e2 : n.toNat ≤ 1000 := by omega
        exact Nat.le_trans (Nat.mul_le_mul e1 e2) (by decide)
      · have hn : F p = none := hs.free hp
        exact k _ _ _ _ (.new hp (.lst upd_same ((r1.mono (same_new hn)).rep n.toNat))) f4
    | _ => exact hf.elim
  | _ => exact hf.elim) ha hb
def fNeg : F1 := fun x Q => match x with
  | .int i => Q (.int (-i))
  | _ => False
theorem ppe_neg (ha : PPE X a ta Ta) : PPE X (.UnaryOp .USub a pos) (tUn (rU fun i => .int (-i)) ta) (pUn fNeg Ta) := ppe_un un_neg (fun F H x dx Q R hs rx hf k => by
  cases rx with
  | int i => exact ⟨i, rfl, k _ _ _ _ (.old (.int _)) hf⟩
  | _ => exact hf.elim) ha
mutual
def toPy : D → PyData
  | .non => .none
  | .bl b => .bool b
  | .int i => .int i
  | .str x => .str x
  | .lst xs => .list (toPys xs)
  | .tup xs => .tuple (toPys xs)
  | .scr ns => .list (ns.map PyData.int)
  | .adr _ => .dict []
  | .exc _ _ => .dict []
def toPys : List D → List PyData
  | [] => []
  | x :: xs => toPy x :: toPys xs
end
theorem dp_ints {K : PySem.W.Frag} {H : Hp} : ∀ ns : List Int, DpAll K H (ns.map V.int) (ns.map PyData.int)
  | [] => .nil
  | n :: ns => .cons (.int n) (dp_ints ns)
mutual
theorem Rep.dp0 {K : PySem.W.Frag} {F H : Hp} (e : Same F H) : ∀ {v : V} {d : D}, Rep K F v d → PyData.canLay0 (toPy d) = true → Dp K H v (toPy d)
  | _, _, .non, _ => by rw [toPy]; exact .non
  | _, _, .bl b, _ => by rw [toPy]; exact .bl b
  | _, _, .int i, _ => by rw [toPy]; exact .int i
  | _, _, .str x, _ => by rw [toPy]; exact .str x
  | _, _, .lst h r, c => by
    rw [toPy] at c ⊢
    rw [PyData.canLay0] at c
    exact .lst (SqL.of (e _ _ h)) (Reps.dp0 e r c)
  | _, _, .tup h r, c => by
    rw [toPy] at c ⊢
    rw [PyData.canLay0] at c
    exact .tup (SqT.of (e _ _ h)) (Reps.dp0 e r c)
  | _, _, .scr h, _ => by rw [toPy]; exact .lst (e.seq h) (dp_ints _)
  | _, _, .adr _, c => by rw [toPy, PyData.canLay0] at c; cases c
  | _, _, .exc _ _ _ _, c => by rw [toPy, PyData.canLay0] at c; cases c
theorem Reps.dp0 {K : PySem.W.Frag} {F H : Hp} (e : Same F H) : ∀ {vs : List V} {ds : List D}, Reps K F vs ds → PyData.canLayAll0 (toPys ds) = true → DpAll K H vs (toPys ds)
  | _, _, .nil, _ => by rw [toPys]; exact .nil
  | _, _, .cons h r, c => by
    rw [toPys] at c ⊢
    rw [PyData.canLayAll0, Bool.and_eq_true] at c
    exact .cons (Rep.dp0 e h c.1) (Reps.dp0 e r c.2)
end
theorem shaped_lay {d : PyData} (h : SeqAt.shaped d = true) : PyData.canLay0 d = true := by
  unfold SeqAt.shaped at h
  rw [Bool.and_eq_true] at h
  exact h.1
theorem Rep.dp {K : PySem.W.Frag} {F H : Hp} (e : Same F H) {v : V} {d : D} (r : Rep K F v d) (h : SeqAt.shaped (toPy d) = true) : Dp K H v (toPy d) := r.dp0 e (shaped_lay h)
def D.eqv (x y : D) : Bool := PyData.eqv (toPy x) (toPy y)
def D.sh (x : D) : Prop := SeqAt.shaped (toPy x) = true
def fEq : F2 := fun x y Q => x.sh ∧ y.sh ∧ Q (.bl (x.eqv y))
def fNe : F2 := fun x y Q => x.sh ∧ y.sh ∧ Q (.bl (!x.eqv y))
theorem opp_eq : OpP X.K (rEqD X.K) fEq := fun F H x y dx dy Q R hs rx ry hf k => ⟨_, _, rx.dp hs hf.1, ry.dp hs hf.2.1, hf.1, hf.2.1, k _ _ _ _ (.old (.bl _)) hf.2.2⟩
theorem opp_ne : OpP X.K (rNeD X.K) fNe := fun F H x y dx dy Q R hs rx ry hf k => ⟨_, _, rx.dp hs hf.1, ry.dp hs hf.2.1, hf.1, hf.2.1, k _ _ _ _ (.old (.bl _)) hf.2.2⟩
def fLt : F2 := f2I0 fun i j => .bl (decide (i < j))
def fLe : F2 := f2I0 fun i j => .bl (decide (i ≤ j))
def fGt : F2 := f2I0 fun i j => .bl (decide (j < i))
def fGe : F2 := f2I0 fun i j => .bl (decide (j ≤ i))
def D.isNon : D → Bool
  | .non => true
  | _ => false
def fIsN : F2 := fun x y Q => match y with | .non => Q (.bl x.isNon) | _ => False
def fNotN : F2 := fun x y Q => match y with | .non => Q (.bl (!x.isNon)) | _ => False
theorem ite_t {A B : Prop} (h : if true = true then A else B) : A := by simpa using h
theorem ite_f {A B : Prop} (h : if false = true then A else B) : B := by simpa using h
theorem ite_ti {A B : Prop} (h : A) : if true = true then A else B := by simpa using h
theorem ite_fi {A B : Prop} (h : B) : if false = true then A else B := by simpa using h
structure Cmp (X : Cx) (op : CmpOp) (r : R2) (f : F2) : Prop where
  op : OpR X (compareOp op) r
  pp : OpP X.K r f
theorem cm_lt : Cmp X .Lt (rI0 fun i j => .bl (decide (i < j))) fLt := ⟨op_lt, opp_I0 fun _ _ _ => .bl _⟩
theorem cm_le : Cmp X .LtE (rI0 fun i j => .bl (decide (i ≤ j))) fLe := ⟨op_le, opp_I0 fun _ _ _ => .bl _⟩
theorem cm_gt : Cmp X .Gt (rI0 fun i j => .bl (decide (j < i))) fGt := ⟨op_gt, opp_I0 fun _ _ _ => .bl _⟩
theorem cm_ge : Cmp X .GtE (rI0 fun i j => .bl (decide (j ≤ i))) fGe := ⟨op_ge, opp_I0 fun _ _ _ => .bl _⟩
theorem cm_eq (hu : X.A.units + 64 < cLine) : Cmp X .Eq (rEqD X.K) fEq := ⟨op_eqD hu, opp_eq⟩
theorem cm_ne (hu : X.A.units + 64 < cLine) : Cmp X .NotEq (rNeD X.K) fNe := ⟨op_neD hu, opp_ne⟩
theorem dec_non {K : PySem.W.Frag} {F : Hp} {v : V} {d : D} (r : Rep K F v d) : decide (v = .non) = d.isNon := by
  cases r <;> rfl
theorem cm_isN : Cmp X .Is (fun x y H Q => y = .non ∧ Q (.bl (decide (x = .non))) H) fIsN := ⟨op_isN, fun F H x y dx dy Q R hs rx ry hf k => by
  cases ry with
  | non => exact ⟨rfl, by rw [dec_non rx]; exact k _ _ _ _ (.old (.bl _)) hf⟩
  | _ => exact hf.elim⟩
theorem cm_notN : Cmp X .IsNot (fun x y H Q => y = .non ∧ Q (.bl (!decide (x = .non))) H) fNotN := ⟨op_notN, fun F H x y dx dy Q R hs rx ry hf k => by
  cases ry with
  | non => exact ⟨rfl, by rw [dec_non rx]; exact k _ _ _ _ (.old (.bl _)) hf⟩
  | _ => exact hf.elim⟩
theorem ppe_cmp {op : CmpOp} {r : R2} {f : F2} (hc : Cmp X op r f) (ha : PPE X a ta Ta) (hb : PPE X b tb Tb) (hm : behindInMarks op b = false) : PPE X (.Compare a [op] [b] pos) (tOp r ta tb) (pOp f Ta Tb) := ⟨pe_cmpR hc.op ha.pe hb.pe hm, snd_op hc.pp ha.snd hb.snd⟩
def pTest (T : TEp) : TTp := fun ρ Q => T ρ fun x ρ' => match x with | .bl k => Q k ρ' | _ => False
theorem snd_test {K : PySem.W.Frag} {t : TE} {T : TEp} (h : SndE K t T) : SndT K (tTest t) (pTest T) := fun G F H σ ρ Q R S hT k => h G F H σ ρ _ _ S hT fun v d F' H' ρ' u S' r q => by
  cases r with
  | bl b => exact ⟨b, rfl, k b F' H' ρ' u S' q⟩
  | _ => exact q.elim
theorem ppt_cmp {op : CmpOp} {r : R2} {f : F2} (hc : Cmp X op r f) (ha : PPE X a ta Ta) (hb : PPE X b tb Tb) (hm : behindInMarks op b = false) : PPT X (.Compare a [op] [b] pos) (tTest (tOp r ta tb)) (pTest (pOp f Ta Tb)) := ⟨pt_cmpR hc.op ha.pe hb.pe hm, snd_test (snd_op hc.pp ha.snd hb.snd)⟩
theorem ppt_val {e : Expr} {t : TE} {T : TEp} (h : PPE X e t T) (he : ∀ whole, isTrue e X.env whole = (do let v ← whole; standAt e.pos; holding [v] (truthy v)) := by intro _; rfl) : PPT X e (tB t) (pTest T) := ⟨pt_val h.pe he, snd_test h.snd⟩
def pChain (f g : F2) (Ta Tb Tc : TEp) : TEp := fun ρ Q => Ta ρ fun x ρ1 => Tb ρ1 fun y ρ2 => f x y fun z => match z with
  | .bl k => if k = true then Tc ρ2 fun w ρ3 => g y w fun z => Q z ρ3 else Q (.bl false) ρ2
  | _ => False
theorem snd_chain {K : PySem.W.Frag} {r r' : R2} {f g : F2} (hp : OpP K r f) (hq : OpP K r' g) (ha : SndE K ta Ta) (hb : SndE K tb Tb) (hc : SndE K tc Tc) : SndE K (tChain r r' ta tb tc) (pChain f g Ta Tb Tc) := fun G F H σ ρ Q R S hT k =>
  ha G F H σ ρ _ _ S hT fun x dx F1 H1 ρ1 u1 S1 r1 h1 => hb G F1 H1 σ ρ1 _ _ S1 h1 fun y dy F2 H2 ρ2 u2 S2 r2 h2 =>
    hp F2 H2 x y dx dy _ _ S2.hF (r1.mono u2.ex) r2 h2 fun v d F3 H3 res q => by
      obtain ⟨u3, S3, r3⟩ := S2.res res
      cases r3 with
      | bl b =>
        refine ⟨b, rfl, ?_⟩
        cases b with
        | true =>
          have q := ite_t q
          refine ite_ti ?_
          refine hc G F3 H3 σ ρ2 _ _ S3 q fun w dw F4 H4 ρ4 u4 S4 r4 h4 => hq F4 H4 y w dy dw _ _ S4.hF ((r2.mono u3.ex).mono u4.ex) r4 h4 fun v d F5 H5 res5 q5 => ?_
          obtain ⟨u5, S5, r5⟩ := S4.res res5
          exact k v d F5 H5 ρ4 ((((u1.trans u2).trans u3).trans u4).trans u5) S5 r5 q5
        | false =>
          have q := ite_f q
          refine ite_fi ?_
          exact k _ _ F3 H3 ρ2 ((u1.trans u2).trans u3) S3 (.bl _) q
      | _ => exact q.elim
theorem ppt_chain {op op' : CmpOp} {r r' : R2} {f g : F2} (h1 : Cmp X op r f) (h2 : Cmp X op' r' g) (ha : PPE X a ta Ta) (hb : PPE X b tb Tb) (hc : PPE X c tc Tc) (hm : lastMarks [op, op'] [b, c] = false := by with_unfolding_all rfl) :
    PPT X (.Compare a [op, op'] [b, c] pos) (tTest (tChain r r' ta tb tc)) (pTest (pChain f g Ta Tb Tc)) := ⟨pt_chain h1.op h2.op ha.pe hb.pe hc.pe hm, snd_test (snd_chain h1.pp h2.pp ha.snd hb.snd hc.snd)⟩
variable {tA tB' : TT} {TA' TB' : TTp} {rest : List Expr}
def pAnd (T U : TTp) : TTp := fun ρ Q => T ρ fun c ρ1 => if c = true then U ρ1 Q else Q false ρ1
def pOr (T U : TTp) : TTp := fun ρ Q => T ρ fun c ρ1 => if c = true then Q true ρ1 else U ρ1 Q
def pNot (T : TTp) : TTp := fun ρ Q => T ρ fun c ρ1 => Q (!c) ρ1
theorem ppw_and1 (ha : PPT X a tA TA') : PPW X (.BoolOp .And [a] pos) tA TA' := ⟨pw_and1 ha.pt, ha.snd⟩
theorem ppw_or1 (ha : PPT X a tA TA') : PPW X (.BoolOp .Or [a] pos) tA TA' := ⟨pw_or1 ha.pt, ha.snd⟩
theorem ppw_and (ha : PPT X a tA TA') (hb : PPW X (.BoolOp .And (b :: rest) pos) tB' TB') : PPW X (.BoolOp .And (a :: b :: rest) pos) (tAnd tA tB') (pAnd TA' TB') := ⟨pw_and ha.pt hb.pw, fun G F H σ ρ Q R S hT k =>
  ha.snd G F H σ ρ _ _ S hT fun c F1 H1 ρ1 u1 S1 h1 => by
    cases c with
    | true => have h1 := ite_t h1; refine ite_ti ?_; exact hb.snd G F1 H1 σ ρ1 _ _ S1 h1 fun b F2 H2 ρ2 u2 S2 h2 => k b F2 H2 ρ2 (u1.trans u2) S2 h2
    | false => have h1 := ite_f h1; refine ite_fi ?_; exact k _ F1 H1 ρ1 u1 S1 h1⟩
theorem ppw_or (ha : PPT X a tA TA') (hb : PPW X (.BoolOp .Or (b :: rest) pos) tB' TB') : PPW X (.BoolOp .Or (a :: b :: rest) pos) (tOr tA tB') (pOr TA' TB') := ⟨pw_or ha.pt hb.pw, fun G F H σ ρ Q R S hT k =>
  ha.snd G F H σ ρ _ _ S hT fun c F1 H1 ρ1 u1 S1 h1 => by
    cases c with
    | false => have h1 := ite_f h1; refine ite_fi ?_; exact hb.snd G F1 H1 σ ρ1 _ _ S1 h1 fun b F2 H2 ρ2 u2 S2 h2 => k b F2 H2 ρ2 (u1.trans u2) S2 h2
    | true => have h1 := ite_t h1; refine ite_ti ?_; exact k _ F1 H1 ρ1 u1 S1 h1⟩
theorem PPW.ppt {e : Expr} {t : TT} {T : TTp} (h : PPW X e t T) : PPT X e t T := ⟨h.pw.pt, h.snd⟩
theorem ppt_not (ha : PPT X a tA TA') : PPT X (.UnaryOp .Not a pos) (tNot tA) (pNot TA') := ⟨pt_not ha.pt, fun G F H σ ρ Q R S hT k => ha.snd G F H σ ρ _ _ S hT fun c F1 H1 ρ1 u1 S1 h1 => k _ F1 H1 ρ1 u1 S1 h1⟩
def pAndV (Ta Tb : TEp) : TEp := fun ρ Q => Ta ρ fun x ρ1 => match x with | .bl c => if c = true then Tb ρ1 Q else Q (.bl false) ρ1 | _ => False
def pNotV (Ta : TEp) : TEp := fun ρ Q => Ta ρ fun x ρ1 => match x with | .bl c => Q (.bl (!c)) ρ1 | _ => False
theorem ppe_one {op} (h : PPE X a ta Ta) : PPE X (.BoolOp op [a] pos) ta Ta := ⟨pe_one h.pe, h.snd⟩
theorem ppe_and (ha : PPE X a ta Ta) (hb : PPE X (.BoolOp .And (b :: rest) pos) tb Tb) : PPE X (.BoolOp .And (a :: b :: rest) pos) (tAndV ta tb) (pAndV Ta Tb) := ⟨pe_and ha.pe hb.pe, fun G F H σ ρ Q R S hT k =>
  ha.snd G F H σ ρ _ _ S hT fun x dx F1 H1 ρ1 u1 S1 r1 h1 => by
    cases r1 with
    | bl c =>
      refine ⟨c, rfl, ?_⟩
      cases c with
      | true => have h1 := ite_t h1; refine ite_ti ?_; exact hb.snd G F1 H1 σ ρ1 _ _ S1 h1 fun v d F2 H2 ρ2 u2 S2 r2 h2 => k v d F2 H2 ρ2 (u1.trans u2) S2 r2 h2
      | false => have h1 := ite_f h1; refine ite_fi ?_; exact k _ _ F1 H1 ρ1 u1 S1 (.bl _) h1
    | _ => exact h1.elim⟩
theorem ppe_not (ha : PPE X a ta Ta) : PPE X (.UnaryOp .Not a pos) (tNotV ta) (pNotV Ta) := ⟨pe_not ha.pe, fun G F H σ ρ Q R S hT k =>
  ha.snd G F H σ ρ _ _ S hT fun x dx F1 H1 ρ1 u1 S1 r1 h1 => by
    cases r1 with
    | bl c => exact ⟨c, rfl, k _ _ F1 H1 ρ1 u1 S1 (.bl _) h1⟩
    | _ => exact h1.elim⟩
def pIf (T : TTp) (Ta Tb : TEp) : TEp := fun ρ Q => T ρ fun c ρ1 => if c = true then Ta ρ1 Q else Tb ρ1 Q
theorem ppe_ifExp {c : Expr} (hc : PPT X c tA TA') (ha : PPE X a ta Ta) (hb : PPE X b tb Tb) : PPE X (.IfExp c a b pos) (tIf tA ta tb) (pIf TA' Ta Tb) := ⟨pe_ifExp hc.pt ha.pe hb.pe, fun G F H σ ρ Q R S hT k =>
  hc.snd G F H σ ρ _ _ S hT fun c F1 H1 ρ1 u1 S1 h1 => by
    cases c with
    | true => have h1 := ite_t h1; refine ite_ti ?_; exact ha.snd G F1 H1 σ ρ1 _ _ S1 h1 fun v d F2 H2 ρ2 u2 S2 r2 h2 => k v d F2 H2 ρ2 (u1.trans u2) S2 r2 h2
    | false => have h1 := ite_f h1; refine ite_fi ?_; exact hb.snd G F1 H1 σ ρ1 _ _ S1 h1 fun v d F2 H2 ρ2 u2 S2 r2 h2 => k v d F2 H2 ρ2 (u1.trans u2) S2 r2 h2⟩
variable {e : Expr} {es : List Expr} {te : TE} {Te : TEp} {t : TA} {T : TAp}
def pNil : TAp := fun ρ Q => Q [] ρ
def pCons (Ta : TEp) (Tr : TAp) : TAp := fun ρ Q => Ta ρ fun x ρ1 => Tr ρ1 fun xs ρ2 => Q (x :: xs) ρ2
theorem ppa_nil : PPA X [] tNil pNil := ⟨pa_nil, fun G F H σ ρ Q R S hT k => k _ _ F H ρ (.refl _ _) S .nil hT⟩
theorem ppa_cons (ha : PPE X e te Te) (hr : PPA X es t T) (hs : starEach (e :: es) X.env = (false, eval e X.env) :: starEach es X.env := by rfl) : PPA X (e :: es) (tCons te t) (pCons Te T) := ⟨pa_cons ha.pe hr.pa hs, fun G F H σ ρ Q R S hT k =>
  ha.snd G F H σ ρ _ _ S hT fun v d F1 H1 ρ1 u1 S1 r1 h1 => hr.snd G F1 H1 σ ρ1 _ _ S1 h1 fun vs ds F2 H2 ρ2 u2 S2 r2 h2 => k _ _ F2 H2 ρ2 (u1.trans u2) S2 (.cons (r1.mono u2.ex) r2) h2⟩
def pTup (T : TAp) : TEp := fun ρ Q => T ρ fun xs ρ1 => xs.length ≤ sizeLine ∧ Q (.tup xs) ρ1
theorem ppe_tup {x1} (h : PPA X es t T) : PPE X (.Tuple es x1 pos) (tTup t) (pTup T) := ⟨pe_tup h.pa, fun G F H σ ρ Q R S hT k =>
  h.snd G F H σ ρ _ _ S hT fun vs ds F1 H1 ρ1 u1 S1 r1 h1 => ⟨by rw [r1.length]; exact h1.1, fun p hp => k _ _ _ _ ρ1 (u1.trans (S1.upNew hp)) (S1.new hp) (.tup upd_same (r1.mono (same_new (S1.freshF hp)))) h1.2⟩⟩
def pLst (T : TAp) : TEp := fun ρ Q => T ρ fun xs ρ1 => xs.length ≤ sizeLine ∧ Q (.lst xs) ρ1
theorem ppe_lst (h : PPA X es t T) : PPE X (.List es pos) (tLst t) (pLst T) := ⟨pe_lst h.pa, fun G F H σ ρ Q R S hT k =>
  h.snd G F H σ ρ _ _ S hT fun vs ds F1 H1 ρ1 u1 S1 r1 h1 => ⟨by rw [r1.length]; exact h1.1, fun p hp => k _ _ _ _ ρ1 (u1.trans (S1.upNew hp)) (S1.new hp) (.lst upd_same (r1.mono (same_new (S1.freshF hp)))) h1.2⟩⟩
def pLstO (T : TAp) : TCp := fun ρ Q => T ρ fun xs ρ1 => xs.length ≤ sizeLine ∧ ∀ a, Q (.own a xs) ρ1
theorem Sim.newOwn {K : PySem.W.Frag} {G F H : Hp} {σ : L2.St} {ρ : Ro} (S : Sim K G F H σ ρ) {p : Addr} {vs : List V} {xs : List D} (h : H p = none) (r : Reps K F vs xs) : Sim K G F (upd H p (.lst vs)) (σ ++ [some (.ref p)]) (ρ ++ [some (.own p xs)]) :=
  (S.more h).pushOwn upd_same (S.freshF h) (S.freshG h) (S.notOwn h) r
theorem ppc_lst (h : PPA X es t T) : PPC X (.List es pos) (tLst t) (pLstO T) := ⟨pe_lst h.pa, fun G F H σ ρ Q R S hT k =>
  h.snd G F H σ ρ _ _ S hT fun vs ds F1 H1 ρ1 u1 S1 r1 h1 => ⟨by rw [r1.length]; exact h1.1, fun p hp => k _ _ _ _ ρ1 u1 (S1.newOwn hp r1) (h1.2 p)⟩⟩
def pCB (f : List D → (D → Prop) → Prop) (T : TAp) : TEp := fun ρ Q => T ρ fun xs ρ1 => f xs fun z => Q z ρ1
theorem snd_cb {K : PySem.W.Frag} {r : List V → Hp → VK → Prop} {f : List D → (D → Prop) → Prop} (hp : CallP K r f) (h : SndA K t T) : SndE K (tCB r t) (pCB f T) := fun G F H σ ρ Q R S hT k =>
  h G F H σ ρ _ _ S hT fun vs ds F1 H1 ρ1 u1 S1 r1 h1 => hp F1 H1 vs ds _ _ S1.hF r1 h1 fun v d F2 H2 res q => by
    obtain ⟨u2, S2, r2⟩ := S1.res res
    exact k v d F2 H2 ρ1 (u1.trans u2) S2 r2 q
theorem ppe_callB {x : Str} {p : Pos} {id : String} {r : List V → Hp → VK → Prop} {f : List D → (D → Prop) → Prop} (hc : CallR X (.builtin id) r) (hp : CallP X.K r f) (hg : Gl X x) (hm : X.mg x = none) (hv : bootBuiltins x = some (.builtin id)) (ha : PPA X (e :: es) t T)
    (hn : x ≠ "__name__" := by decide) (hdb : (x == ("__debug__" : Str)) = false := by decide)
    (he : starEach (e :: es) X.env = (false, eval e X.env) :: starEach es X.env := by rfl) (hpl : (backTo pos (starEach es X.env)).any (·.1) = false := by rfl) : PPE X (.Call (.Name x p) (e :: es) [] pos) (tCB r t) (pCB f T) := ⟨pe_callB hc hg hm hv ha.pa hn hdb he hpl, snd_cb hp ha.snd⟩
theorem ppe_callTy {x : Str} {p : Pos} {id : String} {r : List V → Hp → VK → Prop} {f : List D → (D → Prop) → Prop} (hc : CallR X (.type id) r) (hp : CallP X.K r f) (hg : Gl X x) (hm : X.mg x = none) (hv : bootBuiltins x = some (.type id)) (ha : PPA X (e :: es) t T)
    (hn : x ≠ "__name__" := by decide) (hdb : (x == ("__debug__" : Str)) = false := by decide)
    (he : starEach (e :: es) X.env = (false, eval e X.env) :: starEach es X.env := by rfl) (hpl : (backTo pos (starEach es X.env)).any (·.1) = false := by rfl) : PPE X (.Call (.Name x p) (e :: es) [] pos) (tCB r t) (pCB f T) := ⟨pe_callTy hc hg hm hv ha.pa hn hdb he hpl, snd_cb hp ha.snd⟩
end
end Pl
namespace Pl
open PySem PySem.Spec PyProof.Rows L2
open PySem.W (AlikeAll minD maxD minD_ints maxD_ints min_list_data min_tuple_data max_list_data max_tuple_data min_list_default max_list_default)
theorem places_rev (n : Nat) : Builtin.Slice.slicePlaces ((n : Int) - 1) (-1) (-1) = n := by
  unfold Builtin.Slice.slicePlaces
  by_cases h : n = 0
  · subst h; rfl
  · first
    | (simp; omega)
    | (simp only [show ¬ ((-1 : Int) > 0) by decide, if_false]; split <;> omega)
theorem adjust_rev (n : Nat) : Builtin.Slice.sliceAdjust none none (-1) (n : Int) = ((n : Int) - 1, -1) := by
  first
  | rfl
  | simp [Builtin.Slice.sliceAdjust]
theorem pick_rev (xs : Array Value) : ((List.range xs.size).filterMap fun (m : Nat) => xs[(((xs.size : Int) - 1) + (m : Int) * (-1)).toNat]?).toArray = xs.toList.reverse.toArray := by
  have e : ((List.range xs.size).filterMap fun (m : Nat) => xs[(((xs.size : Int) - 1) + (m : Int) * (-1)).toNat]?) = ((List.range xs.size).map fun k => xs.size - 1 - k).filterMap (xs[·]?) := by
    rw [List.filterMap_map]
    have g : ∀ l : List Nat, (l.filterMap fun (m : Nat) => xs[(((xs.size : Int) - 1) + (m : Int) * (-1)).toNat]?) = l.filterMap ((fun x => xs[x]?) ∘ fun k => xs.size - 1 - k) := fun l => by
      congr 1
      funext m
      show xs[(((xs.size : Int) - 1) + (m : Int) * (-1)).toNat]? = xs[xs.size - 1 - m]?
      rw [show (((xs.size : Int) - 1) + (m : Int) * (-1)).toNat = xs.size - 1 - m by omega]
    exact g _
  rw [e, PySem.W.krv_range, List.filterMap_reverse, PySem.W.krv_all]
section
variable {prog : Program} {w : World} {A : Around} {E : Value → Shared → Prop} {s : Shared}
theorem getItem_tuple_rev {t sl : Addr} {items : Array Value} {vl vu vs : Value} {Q : Value → Shared → Prop} (ht : IsTup s.heap t items) (hs : s.heap.IsSliceOf sl vl vu vs) (pl : IsPart vl none) (pu : IsPart vu none) (ps : IsPart vs (some (-1)))
    (h : Q (.ref s.heap.objs.size) { s with heap := s.heap.push { cls := .type "tuple", data := .seq items.toList.reverse.toArray } })
    (hsz : items.size ≤ sizeLine) : wpAny (model prog w) A (getItem (.ref t) (.ref sl)) Q E s := by
  have htake : sizeOk (.seq items.toList.reverse.toArray) := by
    show items.toList.reverse.toArray.size ≤ sizeLine
    rw [List.size_toArray, List.length_reverse, Array.length_toList]
    omega
  obtain ⟨os, hos, hcs, hds⟩ := id hs
  have hTs : s.TypeIs (.ref sl) "slice" := ⟨os, hos, hcs⟩
  unfold getItem
  try with_reducible refine wpAny_holding ?_
  first | refine wpAny_bind (wpAny_pure ?_) | skip
  refine wpAny_bind (wpAny_sequenceKey ht.typeIs (by decide) ?_)
  refine wpAny_bind (wpAny_callSpecial?_slot (name := Str.ofString "__getitem__") ht.typeIs PyProof.Rows.slot_tuple_getitem
    (wpAny_call_entry PyProof.Rows.slot_tuple_getitem ht.typeIs entry_tuple_getitem ?_ (args_tuple_getitem _ _)))
  show wpAny _ _ (Builtin.Tuple.tupleItemsOf (.ref t) >>= _) _ _ s
  refine wpAny_bind (tupleItemsOf_ ht ?_)
  refine wpAny_bind (wpAny_typeOf hTs ?_)
  rw [if_pos (by decide)]
  have applied : ∀ {Q : Int × Int × Nat → Shared → Prop} {A' : Around} {E' : Value → Shared → Prop}, Q ((items.size : Int) - 1, -1, items.size) s → wpAny (model prog w) A' (Builtin.Slice.sliceApplied (.ref sl) (pure (items.size : Int))) Q E' s := by
    intro Q A' E' h
    unfold Builtin.Slice.sliceApplied Builtin.Slice.sliceFields
    refine wpAny_bind (wpAny_bind (wpAny_field hos hds (x := vl) rfl (wpAny_bind (wpAny_field hos hds (x := vu) rfl (wpAny_bind (wpAny_field hos hds (x := vs) rfl (wpAny_pure ?_)))))))
    refine wpAny_bind (HT.slicePart_ ps ?_)
    show wpAny _ _ (if ((-1 : Int) == 0) = true then _ else _) _ _ s
    rw [if_neg (by decide)]
    refine wpAny_bind (HT.slicePart_ pl (wpAny_bind (HT.slicePart_ pu (wpAny_bind (wpAny_pure ?_)))))
    show wpAny _ _ (match Builtin.Slice.sliceAdjust none none (-1) (items.size : Int) with | (lo, hi) => pure (lo, (-1 : Int), Builtin.Slice.slicePlaces lo hi (-1))) _ _ s
    rw [adjust_rev]
    show wpAny _ _ (pure ((items.size : Int) - 1, (-1 : Int), Builtin.Slice.slicePlaces ((items.size : Int) - 1) (-1) (-1))) _ _ s
    rw [places_rev]
    exact wpAny_pure h
  refine wpAny_bind (applied ?_)
  have hno : ¬ ((((items.size : Int) - 1) == 0 && (-1 : Int) == 1 && items.size == items.size) = true) := by
    intro q
    rw [Bool.and_eq_true, Bool.and_eq_true] at q
    exact absurd q.1.2 (by decide)
  show wpAny _ _ (if (((items.size : Int) - 1) == 0 && (-1 : Int) == 1 && items.size == items.size) = true then _ else _) _ _ s
  rw [if_neg hno, pick_rev]
  first
    | exact wpAny_bind (m := Builtin.Tuple.tupleExact _) (wpAny_newObj_type (wpAny_pure ⟨_, rfl, wpAny_pure h⟩) htake)
    | exact wpAny_bind (m := Builtin.Tuple.tupleExact _) (wpAny_newObj_type (wpAny_bind (wpAny_pure (wpAny_pure ⟨_, rfl, wpAny_pure h⟩))) htake)
    | exact wpAny_bind (wpAny_bind (m := Builtin.Tuple.tupleExact _) (wpAny_newObj_type (wpAny_pure (wpAny_pure ⟨_, rfl, wpAny_pure h⟩)) htake))
    | exact wpAny_bind (wpAny_bind (m := Builtin.Tuple.tupleExact _) (wpAny_newObj_type (wpAny_pure ⟨_, rfl, wpAny_pure h⟩) htake))
end
section
variable {X : Cx}
def tRevA (K : PySem.W.Frag) (te : TE) : TE := fun σ H Q => te σ H fun x H1 => ∃ a xs, x = .ref a ∧ ((SqL K H1 a xs ∧ ∀ p, H1 p = none → Q (.ref p) (upd H1 p (.lst xs.reverse))) ∨ (SqT K H1 a xs ∧ ∀ p, H1 p = none → Q (.ref p) (upd H1 p (.tup xs.reverse))))
theorem pe_revA {e : Expr} {te : TE} {k : Nat} {p1 p2 p3 pos : Pos} (he : PE X e te) : PE X (.Subscript e (.Slice none none (some (.UnaryOp .USub (.Constant (.int 1) k p1) p2)) p3) pos) (tRevA X.K te) := by
  refine ⟨fun pins s σ H Q I h => ?_⟩
  refine Subscript_ (thn (he.run pins s σ H _ I h) fun v s1 ⟨x, H1, I1, r1, q1⟩ => ?_)
  obtain ⟨a, xs, ex, hx⟩ := q1
  subst ex
  cases r1
  have hst : PO X (some (.UnaryOp .USub (.Constant (.int 1) k p1) p2)) (tPart (tUn (rU fun i => .int (-i)) (tC (.int 1)))) := po_some (pe_un un_neg pe_int)
  refine wpAny_Slice (thn (po_none.run pins s1 σ H1 (fun o H2 => o = none ∧ H2 = H1) I1 ⟨rfl, rfl⟩) fun vl s2 ⟨l, H2, I2, pl, el, e2⟩ => ?_)
  subst el e2
  refine thn (po_none.run pins s2 σ H2 (fun o H3 => o = none ∧ H3 = H2) I2 ⟨rfl, rfl⟩) fun vu s3 ⟨u, H3, I3, pu, eu, e3⟩ => ?_
  subst eu e3
  refine thn (hst.run pins s3 σ H3 (fun o H4 => o = some (-1) ∧ H4 = H3) I3 ⟨1, rfl, -1, rfl, rfl, rfl⟩) fun vs s4 ⟨o, H4, I4, ps, eo, e4⟩ => ?_
  subst eo e4
  have I5 : Inv X pins σ H4 { s4 with heap := s4.heap.push { cls := .type "slice", data := .fields #[vl, vu, vs] } } := I4.kept (t' := s4.toks) fun b ob q => Heap.get?_push_of_some _ q
  show wpAny (model X.prog X.w) X.A (subscriptTail e (.Slice none none (some (.UnaryOp .USub (.Constant (.int 1) k p1) p2)) p3) (.ref a) (.ref s4.heap.objs.size)) (EP X pins σ Q) X.xe { s4 with heap := s4.heap.push { cls := .type "slice", data := .fields #[vl, vu, vs] } }
  rcases hx with ⟨hx, q⟩ | ⟨hx, q⟩
  · obtain ⟨its, r, ht, hz⟩ := I5.list hx
    have hlen := r.length
    refine tail_any (ops := [.ref a, .ref s4.heap.objs.size]) ht.isList.typeIs (PySem.slot_list_getitem.lookup) ?_ (by with_unfolding_all rfl)
    refine wpAny_getItem_list_slice ht.isList (Heap.IsSliceOf.new _ vl vu vs) pl pu ps (by decide) ?_ (by rw [List.size_toArray]; omega)
    rw [PySem.W.krv_pick]
    refine ⟨.ref _, _, I5.laid (t' := s4.toks) (o := .lst xs.reverse) (fun b ob q => Heap.get?_push_of_some _ q) (Nat.le_refl _) ?_, rfl, q _ (I5.hok.fresh (Nat.le_refl _))⟩
    exact ⟨by rw [List.length_reverse]; exact hz, _, 0, r.reverse, Heap.get?_push_size _ rfl⟩
  · obtain ⟨its, r, ht, hz⟩ := I5.tuple hx
    have hlen := r.length
    refine tail_any (ops := [.ref a, .ref s4.heap.objs.size]) ht.typeIs (PyProof.Rows.slot_tuple_getitem.lookup) ?_ (by with_unfolding_all rfl)
    refine getItem_tuple_rev ht (Heap.IsSliceOf.new _ vl vu vs) pl pu ps ?_ (by rw [List.size_toArray]; omega)
    refine ⟨.ref _, _, I5.laid (t' := s4.toks) (o := .tup xs.reverse) (fun b ob q => Heap.get?_push_of_some _ q) (Nat.le_refl _) ?_, rfl, q _ (I5.hok.fresh (Nat.le_refl _))⟩
    exact ⟨by rw [List.length_reverse]; exact hz, _, r.reverse, ⟨_, Heap.get?_push_size _ rfl, rfl, _, rfl⟩⟩
theorem alike_ints (ns : List Int) : AlikeAll (ns.map PyData.int) := ⟨fun x hx y hy => by
  obtain ⟨i, _, rfl⟩ := List.mem_map.mp hx
  obtain ⟨j, _, rfl⟩ := List.mem_map.mp hy
  rfl, fun x hx => by
  obtain ⟨i, _, rfl⟩ := List.mem_map.mp hx
  simp⟩
theorem depth_ints : ∀ ns : List Int, PyData.depthAll (ns.map PyData.int) = 0
  | [] => rfl
  | n :: ns => by
    show max (PyData.depth (.int n)) (PyData.depthAll (ns.map PyData.int)) = 0
    rw [depth_ints ns]; rfl
theorem reads_vals {h : Heap} : ∀ {ns : List Int} {us : List Value}, Vals (ns.map V.int) us → ∃ as, ReadsAll h us (ns.map PyData.int) as
  | [], _, .nil => ⟨_, .nil⟩
  | n :: ns, _, .cons r t => by
    obtain ⟨tk, rfl⟩ := r
    obtain ⟨as, q⟩ := reads_vals (h := h) t
    exact ⟨_, .cons (.int _ _) q⟩
theorem reads_int {h : Heap} {v : Value} {n : Int} {bs : List Addr} (r : Reads h v (.int n) bs) : ∃ t, v = .int n t := by
  cases r; exact ⟨_, rfl⟩
def bestD (g : Int → Int → Int) (d : V) : List Int → V
  | [] => d
  | n :: ns => .int (ns.foldl g n)
def tDflt (K : PySem.W.Frag) (g : Int → Int → Int) (te td : TE) : TE := fun σ H Q => te σ H fun x H1 => td σ H1 fun d H2 => ∃ a ns, x = .ref a ∧ SqL K H2 a (ns.map V.int) ∧ Q (bestD g d ns) H2
theorem pe_maxDflt {e d : Expr} {te td : TE} {p pos kp : Pos} (hg : Gl X "max") (hm : X.mg "max" = none) (hc : X.calm = true) (hu : X.A.units + 64 < cLine) (he : PE X e te) (hd : PE X d td)
    (hs : starEach [e] X.env = [(false, eval e X.env)] := by rfl) :
    PE X (.Call (.Name "max" p) [e] [⟨some "default", d, kp⟩] pos) (tDflt X.K max te td) := by
  refine ⟨fun pins s σ H Q I h => ?_⟩
  refine wpAny_Call_Name_kw (ld_blt (u := .builtin "max") I hg hm (by decide +kernel) ?_)
  refine callWith_kw (id := "max") ?_ (by rw [hs]; rfl) (by rw [hs]; rfl)
  have ha : PA X [e] (tCons te tNil) := pa_cons he pa_nil (by rw [hs]; rfl)
  have hk : PK X [⟨some "default", d, kp⟩] (tCons td tNil) := pk_cons hd pk_nil
  refine thn (ha.run pos pins s σ H (fun vs H1 => td σ H1 fun d H2 => ∃ a ns, vs = [.ref a] ∧ SqL X.K H2 a (ns.map V.int) ∧ Q (bestD max d ns) H2) I ?_) fun us s1 ⟨vs, H1, I1, r1, q1⟩ => ?_
  · show te σ H _
    have e : (fun (x : V) (H1 : Hp) => tNil σ H1 fun xs H2 => td σ H2 fun d H3 => ∃ a ns, (x :: xs) = [V.ref a] ∧ SqL X.K H3 a (ns.map V.int) ∧ Q (bestD max d ns) H3) = fun (x : V) (H1 : Hp) => td σ H1 fun d H2 => ∃ a ns, x = .ref a ∧ SqL X.K H2 a (ns.map V.int) ∧ Q (bestD max d ns) H2 := by
      funext x H1
      show (td σ H1 fun d H3 => ∃ a ns, [x] = [V.ref a] ∧ SqL X.K H3 a (ns.map V.int) ∧ Q (bestD max d ns) H3) = _
      congr 1
      funext d H3
      simp
    rw [e]
    exact h
  · refine thn (hk.run pos pins s1 σ H1 (fun zs H2 => ∃ d a ns, zs = [d] ∧ vs = [.ref a] ∧ SqL X.K H2 a (ns.map V.int) ∧ Q (bestD max d ns) H2) I1 ?_) fun ws s2 ⟨zs, H2, I2, r2, q2⟩ => ?_
    · show td σ H1 _
      have e : (fun (x : V) (H2 : Hp) => tNil σ H2 fun xs H3 => ∃ d a ns, (x :: xs) = [d] ∧ vs = [V.ref a] ∧ SqL X.K H3 a (ns.map V.int) ∧ Q (bestD max d ns) H3) = fun (d : V) (H2 : Hp) => ∃ a ns, vs = [V.ref a] ∧ SqL X.K H2 a (ns.map V.int) ∧ Q (bestD max d ns) H2 := by
        funext x H2
        show (∃ d a ns, [x] = [d] ∧ vs = [V.ref a] ∧ SqL X.K H2 a (ns.map V.int) ∧ Q (bestD max d ns) H2) = _
        simp
      rw [e]
      exact q1
    · obtain ⟨d, a, ns, rfl, rfl, hL, q⟩ := q2
      obtain ⟨w, rfl, rw'⟩ := vals1 r2
      rw [Vals.ref1 r1]
      obtain ⟨its, rv, hl, _⟩ := I2.list hL
      obtain ⟨as, ra⟩ := reads_vals (h := s2.heap) rv
      refine max_list_default (I2.ok.hd hc) hl.isList ra (alike_ints ns) (by rw [depth_ints]; omega) (fun e h' tk k => ?_) fun y ys i v h' tk bs e _ r k => ?_
      · have e' : ns = [] := by cases ns with | nil => rfl | cons _ _ => cases e
        subst e'
        exact ⟨d, H2, I2.kept k, rw', q⟩
      · cases ns with
        | nil => cases e
        | cons n ns =>
          cases e
          rw [maxD_ints] at r
          obtain ⟨t, rfl⟩ := reads_int r
          exact ⟨.int _, H2, I2.kept k, ⟨_, rfl⟩, q⟩
theorem pe_minDflt {e d : Expr} {te td : TE} {p pos kp : Pos} (hg : Gl X "min") (hm : X.mg "min" = none) (hc : X.calm = true) (hu : X.A.units + 64 < cLine) (he : PE X e te) (hd : PE X d td)
    (hs : starEach [e] X.env = [(false, eval e X.env)] := by rfl) :
    PE X (.Call (.Name "min" p) [e] [⟨some "default", d, kp⟩] pos) (tDflt X.K min te td) := by
  refine ⟨fun pins s σ H Q I h => ?_⟩
  refine wpAny_Call_Name_kw (ld_blt (u := .builtin "min") I hg hm (by decide +kernel) ?_)
  refine callWith_kw (id := "min") ?_ (by rw [hs]; rfl) (by rw [hs]; rfl)
  have ha : PA X [e] (tCons te tNil) := pa_cons he pa_nil (by rw [hs]; rfl)
  have hk : PK X [⟨some "default", d, kp⟩] (tCons td tNil) := pk_cons hd pk_nil
  refine thn (ha.run pos pins s σ H (fun vs H1 => td σ H1 fun d H2 => ∃ a ns, vs = [.ref a] ∧ SqL X.K H2 a (ns.map V.int) ∧ Q (bestD min d ns) H2) I ?_) fun us s1 ⟨vs, H1, I1, r1, q1⟩ => ?_
  · show te σ H _
    have e : (fun (x : V) (H1 : Hp) => tNil σ H1 fun xs H2 => td σ H2 fun d H3 => ∃ a ns, (x :: xs) = [V.ref a] ∧ SqL X.K H3 a (ns.map V.int) ∧ Q (bestD min d ns) H3) = fun (x : V) (H1 : Hp) => td σ H1 fun d H2 => ∃ a ns, x = .ref a ∧ SqL X.K H2 a (ns.map V.int) ∧ Q (bestD min d ns) H2 := by
      funext x H1
      show (td σ H1 fun d H3 => ∃ a ns, [x] = [V.ref a] ∧ SqL X.K H3 a (ns.map V.int) ∧ Q (bestD min d ns) H3) = _
      congr 1
      funext d H3
      simp
    rw [e]
    exact h
  · refine thn (hk.run pos pins s1 σ H1 (fun zs H2 => ∃ d a ns, zs = [d] ∧ vs = [.ref a] ∧ SqL X.K H2 a (ns.map V.int) ∧ Q (bestD min d ns) H2) I1 ?_) fun ws s2 ⟨zs, H2, I2, r2, q2⟩ => ?_
    · show td σ H1 _
      have e : (fun (x : V) (H2 : Hp) => tNil σ H2 fun xs H3 => ∃ d a ns, (x :: xs) = [d] ∧ vs = [V.ref a] ∧ SqL X.K H3 a (ns.map V.int) ∧ Q (bestD min d ns) H3) = fun (d : V) (H2 : Hp) => ∃ a ns, vs = [V.ref a] ∧ SqL X.K H2 a (ns.map V.int) ∧ Q (bestD min d ns) H2 := by
        funext x H2
        show (∃ d a ns, [x] = [d] ∧ vs = [V.ref a] ∧ SqL X.K H2 a (ns.map V.int) ∧ Q (bestD min d ns) H2) = _
        simp
      rw [e]
      exact q1
    · obtain ⟨d, a, ns, rfl, rfl, hL, q⟩ := q2
      obtain ⟨w, rfl, rw'⟩ := vals1 r2
      rw [Vals.ref1 r1]
      obtain ⟨its, rv, hl, _⟩ := I2.list hL
      obtain ⟨as, ra⟩ := reads_vals (h := s2.heap) rv
      refine min_list_default (I2.ok.hd hc) hl.isList ra (alike_ints ns) (by rw [depth_ints]; omega) (fun e h' tk k => ?_) fun y ys i v h' tk bs e _ r k => ?_
      · have e' : ns = [] := by cases ns with | nil => rfl | cons _ _ => cases e
        subst e'
        exact ⟨d, H2, I2.kept k, rw', q⟩
      · cases ns with
        | nil => cases e
        | cons n ns =>
          cases e
          rw [minD_ints] at r
          obtain ⟨t, rfl⟩ := reads_int r
          exact ⟨.int _, H2, I2.kept k, ⟨_, rfl⟩, q⟩
end
end Pl
namespace Pl
open PySem PySem.Spec PyProof.Rows L2
def SqK (K : PySem.W.Frag) (k : Bool) (H : Hp) (a : Addr) (xs : List V) : Prop := match k with
  | true => SqL K H a xs
  | false => SqT K H a xs
def ItK (k : Bool) (h : Heap) (it a : Addr) (i : Nat) : Prop := match k with
  | true => h.IsListIter it a i
  | false => h.IsTupleIter it a i
def IsK (k : Bool) (h : Heap) (a : Addr) (items : Array Value) : Prop := match k with
  | true => h.IsList a items
  | false => h.IsTuple a items
def objK (k : Bool) (l : Addr) : Obj := match k with
  | true => { cls := .type "list_iterator", data := .fields #[.ref l, .int 0 0] }
  | false => { cls := .type "tuple_iterator", data := .fields #[.ref l, .int 0 0] }
theorem drawsK {prog : Program} {w : World} {A : Around} (hh : A.handled = none) (k : Bool) (it l : Addr) (hne : l ≠ it) (items : Array Value) :
    Draws prog w A it [it, l] items.size (fun i v => items[i]? = some v) (fun i h => ItK k h it l i ∧ IsK k h l items) := by
  cases k with
  | true => exact Draws.list hh it l hne items
  | false => exact Draws.tuple hh it l hne items
theorem beginsK (k : Bool) (l : Addr) (items : Array Value) : Begins (.ref l) (objK k l) fun h => IsK k h l items := by
  cases k with
  | true => exact begins_list l items
  | false => exact begins_tuple l items
theorem itK_new {k : Bool} {h : Heap} {it l : Addr} (e : h.get? it = some (objK k l)) : ItK k h it l 0 := by
  cases k with
  | true => exact ⟨_, e, rfl, rfl⟩
  | false => exact ⟨_, e, rfl, rfl⟩
theorem ItK.obj {k : Bool} {h : Heap} {it l : Addr} {i : Nat} (x : ItK k h it l i) : ∃ o, h.get? it = some o ∧ ∀ v, o.data ≠ .cell v := by
  cases k with
  | true => obtain ⟨o, e, _, d⟩ := x; exact ⟨o, e, fun v q => by rw [d] at q; cases q⟩
  | false => obtain ⟨o, e, _, d⟩ := x; exact ⟨o, e, fun v q => by rw [d] at q; cases q⟩
theorem ItK.at {k : Bool} {h h' : Heap} {it l : Addr} {i : Nat} (x : ItK k h it l i) (e : ∀ o, h.get? it = some o → h'.get? it = some o) : ItK k h' it l i := by
  cases k with
  | true => obtain ⟨o, q, r⟩ := x; exact ⟨o, e o q, r⟩
  | false => obtain ⟨o, q, r⟩ := x; exact ⟨o, e o q, r⟩
section
variable {X : Cx} {pins : List (Addr × Obj)} {σ : L2.St} {H : Hp} {s : Shared} {a : Addr} {xs ys : List V} {k : Bool}
theorem invK (I : Inv X pins σ H s) (h : SqK X.K k H a xs) : ∃ its : List Value, Vals xs its ∧ IsK k s.heap a its.toArray ∧ xs.length ≤ sizeLine ∧ a < s.heap.objs.size := by
  cases k with
  | true =>
    obtain ⟨its, r, p, z⟩ := I.list h
    exact ⟨its, r, p.isList, z, p.lt⟩
  | false =>
    obtain ⟨its, r, p, z⟩ := I.tuple h
    exact ⟨its, r, p, z, p.lt⟩
theorem invK_inj (I : Inv X pins σ H s) (h : SqK X.K k H a xs) (h' : SqK X.K k H a ys) : xs = ys := by
  cases k with
  | true => exact I.list_inj h h'
  | false => exact I.tuple_inj h h'
end
theorem SqK.mono {K : PySem.W.Frag} {k : Bool} {H H' : Hp} {a : Addr} {xs : List V} (e : Same H H') (h : SqK K k H a xs) : SqK K k H' a xs := by
  cases k with
  | true => exact e.seq h
  | false =>
    rcases h with (h | ⟨o, h⟩) | h
    · exact .inl (.inl (e _ _ h))
    · exact .inl (.inr ⟨o, e _ _ h⟩)
    · exact .inr h
theorem turn_goes {P : Program} {w : World} {K : PySem.W.Frag} {tg : Expr} {J : It} {fp : List Addr} {it : Addr} {tn : Nat → Heap → Prop}
    (mem : it ∈ fp) (obj : ∀ i h, tn i h → ∀ b ∈ fp, ∃ o, h.get? b = some o ∧ ∀ v, o.data ≠ .cell v) (keep : ∀ i h h', tn i h → (∀ b ∈ fp, ∀ o, h.get? b = some o → h'.get? b = some o) → tn i h')
    (go : ∀ (X : Cx), X.prog = P → X.w = w → X.K = K → X.calm = true → ∀ (i : Nat) (pins : List (Addr × Obj)) (s : Shared) (σ : L2.St) (H : Hp), Inv X pins σ H s → (∀ b ∈ fp, FpOk X pins H b) → tn i s.heap → (J.go i H ∨ J.stop i H) →
      ∃ (gfp wr : List Addr) (n : Nat) (Y : Nat → Heap → Value → Heap → Prop) (St : Nat → Heap → Prop), GoesN P w X.A tg it gfp wr n Y St ∧ St i s.heap ∧ (∀ b ∈ wr, b ∈ fp) ∧
        (J.go i H → i < n ∧ ∀ v h', Y i s.heap v h' → St (i + 1) h' → (∀ b o, b ∉ wr → s.heap.get? b = some o → h'.get? b = some o) →
          tn (i + 1) h' ∧ ∃ T ob, v = .ref T ∧ s.heap.objs.size ≤ T ∧ ObjOk P w (upd H T ob) h' T ob ∧ J.yld i H (.ref T) (upd H T ob)) ∧ (J.stop i H → i = n))
    (self : ∀ (A : Around) (i : Nat) (s : Shared) (Q : Value → Shared → Prop) (E : Value → Shared → Prop), tn i s.heap → Q (.ref it) s → wpAny (model P w) A (pyIter (.ref it)) Q E s) : Turn P w K tg J fp it tn where
  mem := mem
  obj := obj
  keep := keep
  item := by
    intro X hP hw hK hc i pins s σ H E I hf st hg
    obtain ⟨gfp, wr, n, Y, St, W, hst, hsub, h1, _⟩ := go X hP hw hK hc i pins s σ H I hf st (.inl hg)
    obtain ⟨hlt, h2⟩ := h1 hg
    subst hP hw hK
    refine W.goes i s (fun u s2 => ∃ x H', Inv X pins σ H' s2 ∧ RelV x u ∧ J.yld i H x H' ∧ tn (i + 1) s2.heap ∧ ∀ b ∈ fp, H' b = none) E hlt hst fun v h' tk hY st' hk _ => ?_
    obtain ⟨ht, T, ob, rfl, hT, new, yl⟩ := h2 v h' hY st' hk
    have I1 : Inv X pins σ (upd H T ob) { s with heap := h', toks := tk } := I.turnedNew (ch := wr) hk (fun b hb => hf b (hsub b hb)) hT new
    refine ⟨.ref T, _, I1, rfl, yl, ht, fun b hb => ?_⟩
    obtain ⟨o, e, _⟩ := obj i s.heap st b hb
    rw [upd_ne (Nat.ne_of_lt (Nat.lt_of_lt_of_le (Heap.lt_size e) hT))]
    exact (hf b hb).1
  done := by
    intro X hP hw hK hc i pins s σ H E I hf st hg
    obtain ⟨gfp, wr, n, Y, St, W, hst, hsub, _, h2⟩ := go X hP hw hK hc i pins s σ H I hf st (.inr hg)
    subst hP hw hK
    have e := h2 hg
    subst e
    refine W.stops s (fun s1 => Inv X pins σ H s1) E hst fun h' tk hk _ => ?_
    exact I.turnedL hk fun b hb => hf b (hsub b hb)
  self := self
theorem tup_ok {P : Program} {w : World} {H : Hp} {h : Heap} {T : Addr} {xs : List V} {us : List Value} (r : Vals xs us) (ht : h.IsTuple T us.toArray) (hz : xs.length ≤ sizeLine) : ObjOk P w (upd H T (.tup xs)) h T (.tup xs) := ⟨hz, us, r, ht⟩
def ItZ2 (K : PySem.W.Frag) (k1 : Bool) (a : Addr) (k2 : Bool) (b : Addr) : It :=
  ⟨fun i H => ∃ (xs ys : List V) (x y : V), SqK K k1 H a xs ∧ SqK K k2 H b ys ∧ xs[i]? = some x ∧ ys[i]? = some y,
    fun i H v H' => ∃ T x y, v = .ref T ∧ H T = none ∧ H' = upd H T (.tup [x, y]) ∧ (∀ xs, SqK K k1 H a xs → xs[i]? = some x) ∧ ∀ ys, SqK K k2 H b ys → ys[i]? = some y,
    fun i H => ∃ xs ys : List V, SqK K k1 H a xs ∧ SqK K k2 H b ys ∧ i = min xs.length ys.length⟩
theorem turn_z2 {P : Program} {w : World} {K : PySem.W.Frag} {elts : List Expr} {kk : Nat} {tpos : Pos} {k1 k2 : Bool} {a b z TI TO i1 i2 : Addr} (S : ZipSep2 z TI TO i1 i2 [i1, a] [i2, b]) (hia : a ≠ i1) (hib : b ≠ i2) :
    Turn P w K (.Tuple elts kk tpos) (ItZ2 K k1 a k2 b) [z, TI, TO, i1, i2] z (fun i h => IsZip h z TI TO .none ∧ IsTupOf2 h TI (.ref i1) (.ref i2) ∧ (∃ a1 a2, IsTupOf2 h TO a1 a2) ∧ ItK k1 h i1 a i ∧ ItK k2 h i2 b i) := by
  refine turn_goes (by simp) (fun i h st c hc => ?_) (fun i h h' st k => ?_) (fun X hP hw hK hc i pins s σ H I hf st hg => ?_) fun A i s Q E st h => wpAny_pyIter_zip st.1 h
  · obtain ⟨hz, hTI, ⟨x, y, hTO⟩, h1, h2⟩ := st
    have e' : c = z ∨ c = TI ∨ c = TO ∨ c = i1 ∨ c = i2 := by simpa using hc
    rcases e' with q | q | q | q | q
    · rw [q]; exact ⟨_, hz, fun v q => nomatch q⟩
    · rw [q]; exact ⟨_, hTI, fun v q => nomatch q⟩
    · rw [q]; exact ⟨_, hTO, fun v q => nomatch q⟩
    · rw [q]; exact h1.obj
    · rw [q]; exact h2.obj
  · obtain ⟨hz, hTI, ⟨x, y, hTO⟩, h1, h2⟩ := st
    exact ⟨k z (by simp) _ hz, k TI (by simp) _ hTI, ⟨x, y, k TO (by simp) _ hTO⟩, h1.at fun o q => k i1 (by simp) o q, h2.at fun o q => k i2 (by simp) o q⟩
  · subst hP hw hK
    obtain ⟨hz, hTI, hTO, h1, h2⟩ := st
    have src : ∃ xs ys, SqK X.K k1 H a xs ∧ SqK X.K k2 H b ys := by
      rcases hg with ⟨xs, ys, _, _, p, q, _⟩ | ⟨xs, ys, p, q, _⟩
      · exact ⟨xs, ys, p, q⟩
      · exact ⟨xs, ys, p, q⟩
    obtain ⟨xs, ys, sx, sy⟩ := src
    obtain ⟨its, rv, p1, z1, _⟩ := invK I sx
    obtain ⟨its2, rv2, p2, z2, _⟩ := invK I sy
    have hh : X.A.in1.handled = none := I.ok.hd hc
    have l1 := rv.length
    have l2 := rv2.length
    refine ⟨_, _, _, _, _, GoesN.zip2 S (drawsK hh k1 i1 a hia its.toArray) (drawsK hh k2 i2 b hib its2.toArray), ⟨hz, hTI, hTO, ⟨h1, p1⟩, ⟨h2, p2⟩⟩, fun c hc => ?_, fun hgo => ⟨?_, fun v h' hY st' hk => ?_⟩, fun hs => ?_⟩
    · have e' : c = z ∨ c = TO ∨ c = i1 ∨ c = i2 := by simpa using hc
      rcases e' with q | q | q | q <;> simp [q]
    · obtain ⟨xs', ys', x, y, p, q, e1, e2⟩ := hgo
      have E1 := invK_inj I p sx
      have E2 := invK_inj I q sy
      subst E1 E2
      have g1 : i < xs'.length := by
        rcases Nat.lt_or_ge i xs'.length with g | g
        · exact g
        · rw [List.getElem?_eq_none g] at e1; cases e1
      have g2 : i < ys'.length := by
        rcases Nat.lt_or_ge i ys'.length with g | g
        · exact g
        · rw [List.getElem?_eq_none g] at e2; cases e2
      simp only [List.size_toArray]
      omega
    · obtain ⟨T, u, v', rfl, hT, hu, hv, htup⟩ := hY
      obtain ⟨hz', hTI', hTO', ⟨h1', _⟩, ⟨h2', _⟩⟩ := st'
      refine ⟨⟨hz', hTI', hTO', h1', h2'⟩, ?_⟩
      obtain ⟨xs', ys', x, y, p, q, e1, e2⟩ := hgo
      have E1 := invK_inj I p sx
      have E2 := invK_inj I q sy
      subst E1 E2
      obtain ⟨u', hu', ru⟩ := rv.get e1
      obtain ⟨w', hw', rw'⟩ := rv2.get e2
      have eu : u = u' := by
        have : its[i]? = some u := by simpa using hu
        rw [hu'] at this; exact (Option.some.inj this).symm
      have ev : v' = w' := by
        have : its2[i]? = some v' := by simpa using hv
        rw [hw'] at this; exact (Option.some.inj this).symm
      subst eu ev
      refine ⟨T, .tup [x, y], rfl, hT, tup_ok (us := [u, v']) (.cons ru (.cons rw' .nil)) htup (by show 2 ≤ sizeLine; decide), T, x, y, rfl, I.hok.fresh hT, rfl, fun l hl => by rw [invK_inj I hl p]; exact e1, fun l hl => by rw [invK_inj I hl q]; exact e2⟩
    · obtain ⟨xs', ys', p, q, e⟩ := hs
      have E1 := invK_inj I p sx
      have E2 := invK_inj I q sy
      subst E1 E2
      simp only [List.size_toArray]
      omega
def iZ2 (K : PySem.W.Frag) (ta : TA) : TI := fun σ H R => ta σ H fun vs H1 => ∃ k1 k2 a b xs ys, vs = [.ref a, .ref b] ∧ SqK K k1 H1 a xs ∧ SqK K k2 H1 b ys ∧ R (ItZ2 K k1 a k2 b) H1
theorem pi_z2 {X : Cx} {e e2 : Expr} {ta : TA} {p pos tpos : Pos} {elts : List Expr} {kk : Nat} (hg : Gl X "zip") (hm : X.mg "zip" = none) (ha : PA X [e, e2] ta)
    (hs : starEach [e, e2] X.env = (false, eval e X.env) :: starEach [e2] X.env := by rfl) (hpl : (backTo pos (starEach [e2] X.env)).any (·.1) = false := by rfl) :
    PI X (.Tuple elts kk tpos) (.Call (.Name "zip" p) [e, e2] [] pos) (iZ2 X.K ta) := by
  refine ⟨fun pins s σ H R I h => ?_⟩
  refine Call_ (ld_blt I hg hm PyProof.Rows.boot_zip (PyProof.Rows.callWith_type1 (thn (ha.run pos pins s σ H _ I h) fun us s1 ⟨vs, H1, I1, r1, q1⟩ => ?_) hs hpl))
  obtain ⟨k1, k2, a, b, xs, ys, ex, hqx, hqy, q⟩ := q1
  subst ex
  obtain ⟨u1, u2, rfl, ra, rb⟩ := vals2 r1
  cases ra
  cases rb
  obtain ⟨its, rv, p1, _, la⟩ := invK I1 hqx
  obtain ⟨its2, rv2, p2, _, lb⟩ := invK I1 hqy
  refine zip_begins2 (beginsK k1 a its.toArray) (beginsK k2 b its2.toArray) p1 p2 fun h' hz hTI hTO h1 h2 hsz hk => wpAny_pyIter_zip hz ?_
  have I2 : Inv X pins σ H1 { s1 with heap := h' } := I1.kept (t' := s1.toks) hk
  refine ⟨s1.heap.objs.size + 4, [s1.heap.objs.size + 4, s1.heap.objs.size + 2, s1.heap.objs.size + 3, s1.heap.objs.size, s1.heap.objs.size + 1], _, _, H1, rfl, I2,
    turn_z2 (zip_sep2 (fp1 := [a]) (fp2 := [b]) (fun c hc => by rw [List.mem_singleton.mp hc]; exact la) (fun c hc => by rw [List.mem_singleton.mp hc]; exact lb)) (Nat.ne_of_lt la) (Nat.ne_of_lt (Nat.lt_succ_of_lt lb)), ⟨hz, hTI, ⟨_, _, hTO⟩, itK_new h1, itK_new h2⟩, fun c hcm => ?_, q⟩
  have hle : s1.heap.objs.size ≤ c := by
    have e' : c = s1.heap.objs.size + 4 ∨ c = s1.heap.objs.size + 2 ∨ c = s1.heap.objs.size + 3 ∨ c = s1.heap.objs.size ∨ c = s1.heap.objs.size + 1 := by simpa using hcm
    rcases e' with z | z | z | z | z
    · rw [z]; exact Nat.le_add_right _ _
    · rw [z]; exact Nat.le_add_right _ _
    · rw [z]; exact Nat.le_add_right _ _
    · rw [z]; exact Nat.le_refl _
    · rw [z]; exact Nat.le_add_right _ _
  exact I1.fpOk hle (I1.hok.fresh hle)
theorem lt_of_get {α : Type} {l : List α} {i : Nat} {x : α} (e : l[i]? = some x) : i < l.length := by
  rcases Nat.lt_or_ge i l.length with g | g
  · exact g
  · rw [List.getElem?_eq_none g] at e; cases e
theorem same_get {its : List Value} {i : Nat} {u u' : Value} (h : its.toArray[i]? = some u) (h' : its[i]? = some u') : u = u' := by
  have : its[i]? = some u := by simpa using h
  rw [h'] at this; exact (Option.some.inj this).symm
set_option maxHeartbeats 1000000 in
theorem meets_enumerate_new1 {v : Value} {o : Obj} {H : Heap → Prop} (B : Begins v o H) :
    Meets (Builtin.«enumerate.__new__» ⟨[.type "enumerate", v], []⟩) (fun _ R s => H s.heap ∧
      R (.ok (.ret (.ref (s.heap.push o).objs.size))) { s with heap := (s.heap.push o).push { cls := .type "enumerate", data := .fields #[.none, .bool false, .ref s.heap.objs.size, rawInt 0, .none, .none] } }) :=
  .of_wp fun prog w A R s h => by
    obtain ⟨hp, g, d, tk, os⟩ := s; obtain ⟨h1, h⟩ := h
    have hsub := sub_enumerate
    have q1 : ∀ {A' : Around} {E : Value → Shared → Prop} {Q : Value → Shared → Prop}, Q (.ref hp.objs.size) ⟨hp.push o, g, d, tk, os⟩ → wpAny (model prog w) A' (pyIter v) Q E ⟨hp, g, d, tk, os⟩ :=
      fun q => B.iter prog w _ _ ⟨hp, g, d, tk, os⟩ _ h1 q
    wp_walk using q1
    refine wpAny_stack_any fun st => wpAny_pure ?_
    split
    · rename_i c _ _ _ _ _
      cases (c == Value.type "enumerate")
      · wp_walk using q1
        exact ⟨_, rfl, h⟩
      · wp_walk using q1
        exact ⟨_, rfl, h⟩
    · wp_walk using q1
      exact ⟨_, rfl, h⟩
theorem enum_begins1 {prog : Program} {w : World} {A : Around} {E : Value → Shared → Prop} {s : Shared} {v : Value} {o : Obj} {H : Heap → Prop} {Q : Value → Shared → Prop} (B : Begins v o H) (h1 : H s.heap)
    (h : ∀ h', IsEnum h' (s.heap.objs.size + 1) s.heap.objs.size 0 .none → h'.get? s.heap.objs.size = some o → h'.objs.size = s.heap.objs.size + 2 →
      (∀ b o, s.heap.get? b = some o → h'.get? b = some o) → Q (.ref (s.heap.objs.size + 1)) { s with heap := h' }) :
    wpAny (model prog w) A (call (.type "enumerate") [v]) Q E s := by
  refine callType_new F.called_enumerate (by decide) (F.typeCall_enumerate_1 _) (F.newCall_enumerate_1 _) (fun obj => F.args_object_init_2 obj _) F.entry_enumerate_new
    (meets_enumerate_new1 B) ⟨h1, ?_⟩
  have hz : (s.heap.push o).objs.size = s.heap.objs.size + 1 := Heap.size_push ..
  show _ ∧ _
  rw [hz]
  have he : IsEnum ((s.heap.push o).push { cls := .type "enumerate", data := .fields #[.none, .bool false, .ref s.heap.objs.size, rawInt 0, .none, .none] }) (s.heap.objs.size + 1) s.heap.objs.size 0 .none := by
    have := Heap.get?_push_size (s.heap.push o) (o := { cls := .type "enumerate", data := .fields #[.none, .bool false, .ref s.heap.objs.size, rawInt 0, .none, .none] }) rfl
    rw [hz] at this; exact this
  refine ⟨⟨_, he, rfl⟩, h _ he (Heap.get?_push_of_some _ (Heap.get?_push_size _ B.free)) (by rw [Heap.size_push, hz]) fun b o x => Heap.get?_push_of_some _ (Heap.get?_push_of_some _ x)⟩
def ItE (K : PySem.W.Frag) (k : Bool) (a : Addr) : It :=
  ⟨fun i H => ∃ (xs : List V) (x : V), SqK K k H a xs ∧ xs[i]? = some x,
    fun i H v H' => ∃ T x, v = .ref T ∧ H T = none ∧ H' = upd H T (.tup [.int (i : Nat), x]) ∧ ∀ xs, SqK K k H a xs → xs[i]? = some x,
    fun i H => ∃ xs : List V, SqK K k H a xs ∧ i = xs.length⟩
theorem turn_e {P : Program} {w : World} {K : PySem.W.Frag} {elts : List Expr} {kk : Nat} {tpos : Pos} {k : Bool} {a e it : Addr} (hei : e ≠ it) (hea : e ≠ a) (hia : a ≠ it) :
    Turn P w K (.Tuple elts kk tpos) (ItE K k a) [e, it] e (fun i h => (∃ old, IsEnum h e it ((0 : Int) + (i : Int)) old) ∧ ItK k h it a i) := by
  refine turn_goes (by simp) (fun i h st d hd => ?_) (fun i h h' st k => ?_) (fun X hP hw hK hc i pins s σ H I hf st hg => ?_) fun A i s Q E st h => let ⟨⟨_, he⟩, _⟩ := st; wpAny_pyIter_enum he h
  · obtain ⟨⟨old, he⟩, h1⟩ := st
    have e' : d = e ∨ d = it := by simpa using hd
    rcases e' with q | q
    · rw [q]; exact ⟨_, he, fun v q => nomatch q⟩
    · rw [q]; exact h1.obj
  · obtain ⟨⟨old, he⟩, h1⟩ := st
    exact ⟨⟨old, k e (by simp) _ he⟩, h1.at fun o q => k it (by simp) o q⟩
  · subst hP hw hK
    obtain ⟨he, h1⟩ := st
    have src : ∃ xs, SqK X.K k H a xs := by
      rcases hg with ⟨xs, _, p, _⟩ | ⟨xs, p, _⟩
      · exact ⟨xs, p⟩
      · exact ⟨xs, p⟩
    obtain ⟨xs, sx⟩ := src
    obtain ⟨its, rv, p1, z1, _⟩ := invK I sx
    have hh : X.A.in1.handled = none := I.ok.hd hc
    have l1 := rv.length
    refine ⟨_, _, _, _, _, GoesN.enumFrom 0 (drawsK hh k it a hia its.toArray) e hei (by simp [hei, hea]) (by simp), ⟨he, ⟨h1, p1⟩⟩, fun d hd => hd, fun hgo => ⟨?_, fun v h' hY st' hk => ?_⟩, fun hs => ?_⟩
    · obtain ⟨xs', x, p, e1⟩ := hgo
      have E1 := invK_inj I p sx
      subst E1
      have g1 := lt_of_get e1
      simp only [List.size_toArray]
      omega
    · obtain ⟨T, t, u, rfl, hT, hu, htup⟩ := hY
      obtain ⟨he', ⟨h1', _⟩⟩ := st'
      refine ⟨⟨he', h1'⟩, ?_⟩
      obtain ⟨xs', x, p, e1⟩ := hgo
      have E1 := invK_inj I p sx
      subst E1
      obtain ⟨u', hu', ru⟩ := rv.get e1
      have eu := same_get hu hu'
      subst eu
      refine ⟨T, .tup [.int (i : Nat), x], rfl, hT, tup_ok (us := [.int ((0 : Int) + (i : Int)) t, u]) (.cons ⟨t, by rw [Int.zero_add]⟩ (.cons ru .nil)) htup (by show 2 ≤ sizeLine; decide), T, x, rfl, I.hok.fresh hT, rfl, fun l hl => by rw [invK_inj I hl p]; exact e1⟩
    · obtain ⟨xs', p, e⟩ := hs
      have E1 := invK_inj I p sx
      subst E1
      simp only [List.size_toArray]
      omega
def iE (K : PySem.W.Frag) (ta : TA) : TI := fun σ H R => ta σ H fun vs H1 => ∃ k a xs, vs = [.ref a] ∧ SqK K k H1 a xs ∧ R (ItE K k a) H1
theorem pi_e {X : Cx} {e : Expr} {ta : TA} {p pos tpos : Pos} {elts : List Expr} {kk : Nat} (hg : Gl X "enumerate") (hm : X.mg "enumerate" = none) (ha : PA X [e] ta) (hs : starEach [e] X.env = [(false, eval e X.env)] := by rfl) :
    PI X (.Tuple elts kk tpos) (.Call (.Name "enumerate" p) [e] [] pos) (iE X.K ta) := by
  refine ⟨fun pins s σ H R I h => ?_⟩
  refine Call_ (ld_blt (u := .type "enumerate") I hg hm (by decide +kernel) (PyProof.Rows.callWith_type1 (thn (ha.run pos pins s σ H _ I h) fun us s1 ⟨vs, H1, I1, r1, q1⟩ => ?_) (by rw [hs]; rfl) rfl))
  obtain ⟨k, a, xs, ex, hqx, q⟩ := q1
  subst ex
  rw [Vals.ref1 r1]
  obtain ⟨its, rv, p1, _, la⟩ := invK I1 hqx
  refine enum_begins1 (beginsK k a its.toArray) p1 fun h' he h1 hsz hk => wpAny_pyIter_enum he ?_
  have I2 : Inv X pins σ H1 { s1 with heap := h' } := I1.kept (t' := s1.toks) hk
  refine ⟨s1.heap.objs.size + 1, [s1.heap.objs.size + 1, s1.heap.objs.size], _, _, H1, rfl, I2,
    turn_e (Nat.ne_of_gt (Nat.lt_succ_self _)) (Nat.ne_of_gt (Nat.lt_succ_of_lt la)) (Nat.ne_of_lt la), ⟨⟨_, he⟩, itK_new h1⟩, fun d hdm => ?_, q⟩
  have hle : s1.heap.objs.size ≤ d := by
    have e' : d = s1.heap.objs.size + 1 ∨ d = s1.heap.objs.size := by simpa using hdm
    rcases e' with z | z
    · rw [z]; exact Nat.le_add_right _ _
    · rw [z]; exact Nat.le_refl _
  exact I1.fpOk hle (I1.hok.fresh hle)
end Pl
namespace Pl
open PySem PySem.Spec PyProof.Rows L2
variable [TJ]
structure PEnds where
  nx : Ro → Prop
  rt : Cell → Ro → Prop
  bk : Ro → Prop := fun _ => False
  ct : Ro → Prop := fun _ => False
abbrev TSp := PEnds → Ro → Prop
structure ERel (K : PySem.W.Frag) (G F : Hp) (P : PEnds) (D : Ends) : Prop where
  nx : ∀ F' H' σ' ρ', Up G F F' → Sim K G F' H' σ' ρ' → P.nx ρ' → D.nx σ' H'
  rt : ∀ F' H' σ' ρ' v c, Up G F F' → Sim K G F' H' (σ' ++ [some v]) (ρ' ++ [some c]) → P.rt c ρ' → D.rt v H'
  bk : ∀ F' H' σ' ρ', Up G F F' → Sim K G F' H' σ' ρ' → P.bk ρ' → D.bk σ' H'
  ct : ∀ F' H' σ' ρ', Up G F F' → Sim K G F' H' σ' ρ' → P.ct ρ' → D.ct σ' H'
theorem ERel.mono {K : PySem.W.Frag} {G F F1 : Hp} {P : PEnds} {D : Ends} (e : ERel K G F P D) (u : Up G F F1) : ERel K G F1 P D :=
  ⟨fun F' H' σ' ρ' v => e.nx F' H' σ' ρ' (u.trans v), fun F' H' σ' ρ' x c v => e.rt F' H' σ' ρ' x c (u.trans v), fun F' H' σ' ρ' v => e.bk F' H' σ' ρ' (u.trans v), fun F' H' σ' ρ' v => e.ct F' H' σ' ρ' (u.trans v)⟩
def SndS (K : PySem.W.Frag) (t : TS) (T : TSp) : Prop := ∀ (G F H : Hp) (σ : L2.St) (ρ : Ro) (P : PEnds) (D : Ends), Sim K G F H σ ρ → T P ρ → ERel K G F P D → t D σ H
structure PPS (X : Cx) (st : Stmt) (t : TS) (T : TSp) : Prop where
  ps : PS X st t
  snd : SndS X.K t T
structure PPSs (X : Cx) (st : List Stmt) (t : TS) (T : TSp) : Prop where
  ps : PSs X st t
  snd : SndS X.K t T
section
variable {X : Cx} {st : Stmt} {rest : List Stmt} {t u : TS} {T U : TSp} {e : Expr} {te : TE} {Te : TEp} {Tc : TCp} {pos : Pos}
def pNext : TSp := fun P ρ => P.nx ρ
def pSeq (T U : TSp) : TSp := fun P ρ => T { P with nx := U P } ρ
theorem ppss_nil : PPSs X [] tNext pNext := ⟨pss_nil, fun G F H σ ρ P D S h r => r.nx F H σ ρ (.refl _ _) S h⟩
theorem ppss_one (h1 : PPS X st t T) : PPSs X [st] t T := ⟨pss_one h1.ps, h1.snd⟩
theorem ppss_cons (h1 : PPS X st t T) (h2 : PPSs X rest u U) : PPSs X (st :: rest) (tSeq t u) (pSeq T U) := ⟨pss_cons h1.ps h2.ps, fun G F H σ ρ P D S h r =>
  h1.snd G F H σ ρ _ _ S h ⟨fun F' H' σ' ρ' u S' q => h2.snd G F' H' σ' ρ' P D S' q (r.mono u), r.rt, r.bk, r.ct⟩⟩
def pDrop (Te : TEp) : TSp := fun P ρ => Te ρ fun _ ρ1 => P.nx ρ1
theorem pps_expr (he : PPE X e te Te) (hs : swapsWith e none pos.line X.env = pure false := by rfl) : PPS X (.Expr e pos) (tDrop te) (pDrop Te) := ⟨ps_expr he.pe hs, fun G F H σ ρ P D S h r =>
  he.snd G F H σ ρ _ _ S h fun v d F' H' ρ' u S' _ q => r.nx F' H' σ ρ' u S' q⟩
def pRet (Tc : TCp) : TSp := fun P ρ => Tc ρ P.rt
theorem pps_ret (he : PPC X e te Tc) : PPS X (.Return (some e) pos) (tRet te) (pRet Tc) := ⟨ps_ret he.pe, fun G F H σ ρ P D S h r =>
  he.snd G F H σ ρ _ _ S h fun v c F' H' ρ' u S' q => r.rt F' H' σ ρ' v c u S' q⟩
def pIfS (C : TTp) (T U : TSp) : TSp := fun P ρ => C ρ fun b ρ1 => if b = true then T P ρ1 else U P ρ1
theorem pps_if {c : Expr} {a b : List Stmt} {tc : TT} {C : TTp} (hc : PPT X c tc C) (ha : PPSs X a t T) (hb : PPSs X b u U) : PPS X (.If c a b pos) (tIfS tc t u) (pIfS C T U) := ⟨ps_if hc.pt ha.ps hb.ps, fun G F H σ ρ P D S h r =>
  hc.snd G F H σ ρ _ _ S h fun b F' H' ρ' u S' q => by
    cases b with
    | true => exact ite_ti (ha.snd G F' H' σ ρ' P D S' (ite_t q) (r.mono u))
    | false => exact ite_fi (hb.snd G F' H' σ ρ' P D S' (ite_f q) (r.mono u))⟩
def pNever : TSp := fun _ _ => False
theorem pps_never : PPS X st tNever pNever := ⟨ps_never, fun _ _ _ _ _ _ _ _ h _ => h.elim⟩
abbrev TGp := D → Ro → (Ro → Prop) → Prop
abbrev TGsp := List D → Ro → (Ro → Prop) → Prop
def SndG (K : PySem.W.Frag) (g : TG) (Gp : TGp) (is : List Nat) : Prop := ∀ (G F H : Hp) (σ : L2.St) (ρ : Ro) (Q : Ro → Prop) (R : L2.St → Hp → Prop) (v : V) (d : D), Sim K G F H σ ρ → Rep K F v d → Gp d ρ Q →
  (∀ F' H' σ' ρ', Up G F F' → Sim K G F' H' σ' ρ' → (∀ j, j ∉ is → σ'[j]? = σ[j]?) → σ'.length = σ.length → Q ρ' → R σ' H') → g v σ H R
def SndGs (K : PySem.W.Frag) (g : TGs) (Gp : TGsp) (is : List Nat) : Prop := ∀ (G F H : Hp) (σ : L2.St) (ρ : Ro) (Q : Ro → Prop) (R : L2.St → Hp → Prop) (vs : List V) (ds : List D), Sim K G F H σ ρ → Reps K F vs ds → Gp ds ρ Q →
  (∀ F' H' σ' ρ', Up G F F' → Sim K G F' H' σ' ρ' → (∀ j, j ∉ is → σ'[j]? = σ[j]?) → σ'.length = σ.length → Q ρ' → R σ' H') → g vs σ H R
structure PTg (X : Cx) (tg : Expr) (g : TG) (Gp : TGp) (is : List Nat) : Prop where
  pg : PG X tg g
  snd : SndG X.K g Gp is
structure PTgs (X : Cx) (tgs : List Expr) (g : TGs) (Gp : TGsp) (is : List Nat) : Prop where
  pg : PGs X tgs g
  snd : SndGs X.K g Gp is
def hName (i : Nat) : TGp := fun d ρ Q => Q (ρ.set i (some (.val d)))
theorem ptg_name {i : Nat} {x : Str} (hN : X.N.Nodup) (hi : X.N[i]? = some x := by rfl) (hx : Loc X.env.scope x := by first | exact Or.inl rfl | exact Or.inr rfl) (hf : X.fn x = true ∨ X.env.scope.names.lookup x = some .local := by first | exact .inl rfl | exact .inr rfl | assumption) : PTg X (.Name x pos) (gName i) (hName i) [i] :=
  ⟨pg_name hN hi hx hf, fun G F H σ ρ Q R v d S r h k => k F H _ _ (.refl _ _) (S.setVal i r) (fun j hj => List.getElem?_set_ne (fun z => hj (by simp [z]))) (by simp) h⟩
def hNil : TGsp := fun ds ρ Q => ds = [] ∧ Q ρ
def hCons (g : TGp) (gs : TGsp) : TGsp := fun ds ρ Q => match ds with | d :: r => g d ρ fun ρ' => gs r ρ' Q | [] => False
theorem ptgs_nil : PTgs X [] gNil hNil [] := ⟨pgs_nil, fun G F H σ ρ Q R vs ds S r h k => by
  obtain ⟨rfl, h⟩ := h
  cases r
  exact ⟨rfl, k F H σ ρ (.refl _ _) S (fun _ _ => rfl) rfl h⟩⟩
theorem ptgs_cons {e : Expr} {es : List Expr} {g : TG} {gs : TGs} {Gp : TGp} {Gs : TGsp} {is js : List Nat} (h1 : PTg X e g Gp is) (h2 : PTgs X es gs Gs js)
    (hs : (assignEach (e :: es) X.env).map (·.2) = assign e X.env :: (assignEach es X.env).map (·.2) := by rfl) : PTgs X (e :: es) (gCons g gs) (hCons Gp Gs) (is ++ js) := ⟨pgs_cons h1.pg h2.pg hs, fun G F H σ ρ Q R vs ds S r h k => by
  cases r with
  | nil => exact h.elim
  | cons r1 r2 => exact ⟨_, _, rfl, h1.snd G F H σ ρ _ _ _ _ S r1 h fun F1 H1 σ1 ρ1 u1 S1 o1 l1 q1 => h2.snd G F1 H1 σ1 ρ1 _ _ _ _ S1 (r2.mono u1.ex) q1 fun F2 H2 σ2 ρ2 u2 S2 o2 l2 q2 =>
      k F2 H2 σ2 ρ2 (u1.trans u2) S2 (fun j hj => (o2 j fun z => hj (List.mem_append_right _ z)).trans (o1 j fun z => hj (List.mem_append_left _ z))) (l2.trans l1) q2⟩⟩
def gAny (K : PySem.W.Frag) (n : Nat) (t : TGs) : TG := fun v σ H Q => gTup K n t v σ H Q ∨ gUnl K n t v σ H Q
def hTup (n : Nat) (g : TGsp) : TGp := fun d ρ Q => match d with
  | .tup ds => ds.length = n ∧ g ds ρ Q
  | .lst ds => ds.length = n ∧ g ds ρ Q
  | _ => False
theorem ptg_tup {es : List Expr} {k : Nat} {t : TGs} {Gp : TGsp} {n : Nat} {is : List Nat} (hc : X.calm = true) (h : PTgs X es t Gp is)
    (hn : (assignEach es X.env).length = n := by rfl) (hst : (assignEach es X.env).findIdx? (·.1) = none := by rfl) : PTg X (.Tuple es k pos) (gAny X.K n t) (hTup n Gp) is :=
  ⟨⟨fun pins s σ H v u Q I r hw => hw.elim (fun hw => (pg_tup hc h.pg hn hst).run pins s σ H v u Q I r hw) fun hw => (pg_unl hc h.pg hn hst).run pins s σ H v u Q I r hw⟩, fun G F H σ ρ Q R v d S r hh k => by
    cases r with
    | tup e r => exact .inl ⟨_, _, rfl, SqT.of (S.hF _ _ e), by rw [r.length]; exact hh.1, h.snd G F H σ ρ Q R _ _ S r hh.2 k⟩
    | lst e r => exact .inr ⟨_, _, rfl, SqL.of (S.hF _ _ e), by rw [r.length]; exact hh.1, h.snd G F H σ ρ Q R _ _ S r hh.2 k⟩
    | _ => exact hh.elim⟩
def pSet (i : Nat) (Tc : TCp) : TSp := fun P ρ => Tc ρ fun c ρ1 => P.nx (ρ1.set i (some c))
theorem snd_set {K : PySem.W.Frag} {i : Nat} {te : TE} {Tc : TCp} (h : SndC K te Tc) : SndS K (tAsg te (gName i)) (pSet i Tc) := fun G F H σ ρ P D S hT r =>
  h G F H σ ρ _ _ S hT fun v c F' H' ρ' u S' q => r.nx F' H' _ _ u (S'.store i) q
theorem pps_set {i : Nat} {x : Str} {pos' : Pos} (hN : X.N.Nodup) (he : PPC X e te Tc) (hi : X.N[i]? = some x := by rfl) (hx : Loc X.env.scope x := by first | exact Or.inl rfl | exact Or.inr rfl) (hs : swapsWith e (some (.Name x pos')) pos.line X.env = pure false := by rfl) (hf : X.fn x = true ∨ X.env.scope.names.lookup x = some .local := by first | exact .inl rfl | exact .inr rfl | assumption) :
    PPS X (.Assign [.Name x pos'] e pos) (tAsg te (gName i)) (pSet i Tc) := ⟨ps_set hN hi hx he.pe hs hf, snd_set he.snd⟩
def pAsg (Te : TEp) (g : TGp) : TSp := fun P ρ => Te ρ fun d ρ1 => g d ρ1 P.nx
theorem pps_asg {tg : Expr} {g : TG} {Gp : TGp} {is : List Nat} (he : PPE X e te Te) (hg : PTg X tg g Gp is) (hs : swapsWithSole [tg] e pos.line X.env = pure false := by rfl) (hw : swappedStores [tg] e X.env = pure none := by rfl)
    (h1 : (assignEach [tg] X.env).map (·.2) = [assign tg X.env] := by rfl) : PPS X (.Assign [tg] e pos) (tAsg te g) (pAsg Te Gp) := ⟨ps_asg he.pe hg.pg hs hw h1, fun G F H σ ρ P D S hT r =>
  he.snd G F H σ ρ _ _ S hT fun v d F' H' ρ' u S' rv q => hg.snd G F' H' σ ρ' _ _ v d S' rv q fun F2 H2 σ2 ρ2 u2 S2 _ _ q2 => r.nx F2 H2 σ2 ρ2 (u.trans u2) S2 q2⟩
def pPar (i j : Nat) (T : TAp) : TSp := fun P ρ => T ρ fun ds ρ1 => match ds with | [x, y] => P.nx ((ρ1.set i (some (.val x))).set j (some (.val y))) | _ => False
theorem pps_par {i j : Nat} {x y : Str} {a b : Expr} {ta : TA} {TA' : TAp} {px py pt : Pos} {kt k2 pt2} (hc : X.calm = true) (hN : X.N.Nodup) (ha : PPA X [a, b] ta TA') (hi : X.N[i]? = some x := by rfl) (hj : X.N[j]? = some y := by rfl) (hij : i ≠ j := by decide)
    (hx : X.env.scope.names.lookup x = some .local := by rfl) (hy : X.env.scope.names.lookup y = some .local := by rfl)
    (hw : swappedStores [.Tuple [.Name x px, .Name y py] kt pt] (.Tuple [a, b] k2 pt2) X.env = pure (some [x, y]) := by rfl)
    (hs : swapsWithSole [.Tuple [.Name x px, .Name y py] kt pt] (.Tuple [a, b] k2 pt2) pos.line X.env = pure false := by rfl) :
    PPS X (.Assign [.Tuple [.Name x px, .Name y py] kt pt] (.Tuple [a, b] k2 pt2) pos) (tPar i j ta) (pPar i j TA') := ⟨ps_par hc hN hi hj hij hx hy ha.pa hw hs, fun G F H σ ρ P D S hT r =>
  ha.snd G F H σ ρ _ _ S hT fun vs ds F' H' ρ' u S' rv q => by
    match rv, q with
    | .cons (d := d1) r1 (.cons (d := d2) r2 .nil), q => exact ⟨_, _, rfl, r.nx F' H' _ _ u ((S'.setVal i r1).setVal j r2) q⟩
    | .nil, q => exact q.elim
    | .cons _ .nil, q => exact q.elim
    | .cons _ (.cons _ (.cons _ _)), q => exact q.elim⟩
end
def ItRep (K : PySem.W.Frag) (J : It) (F : Hp) (ds : List D) : Prop := ∀ F' H, Same F F' → Same F' H →
  (∀ (i : Nat) (d : D), ds[i]? = some d → J.go i H ∧ ∀ x H', J.yld i H x H' → ∃ F'', Res K F' H x d F'' H') ∧ J.stop ds.length H
theorem ItRep.mono {K : PySem.W.Frag} {J : It} {F F1 : Hp} {ds : List D} (h : ItRep K J F ds) (e : Same F F1) : ItRep K J F1 ds := fun F' H e1 e2 => h F' H (e.trans e1) e2
def SndI (K : PySem.W.Frag) (wi : TI) (T : TAp) : Prop := ∀ (G F H : Hp) (σ : L2.St) (ρ : Ro) (Q : List D → Ro → Prop) (R : It → Hp → Prop), Sim K G F H σ ρ → T ρ Q →
  (∀ J ds F' H' ρ', Up G F F' → Sim K G F' H' σ ρ' → ItRep K J F' ds → Q ds ρ' → R J H') → wi σ H R
structure PPI (X : Cx) (tg iter : Expr) (wi : TI) (T : TAp) : Prop where
  pi : PI X tg iter wi
  snd : SndI X.K wi T
theorem itrep_list {K : PySem.W.Frag} {F : Hp} {a : Addr} {vs : List V} {ds : List D} (h : F a = some (.lst vs)) (r : Reps K F vs ds) : ItRep K (Itl K a) F ds := fun F' H e1 e2 => by
  have hH : H a = some (.lst vs) := e2 _ _ (e1 _ _ h)
  refine ⟨fun i d hd => ?_, ⟨vs, SqL.of hH, by rw [r.length]; exact Nat.le_refl _⟩⟩
  obtain ⟨v, hv, rv⟩ := r.get hd
  refine ⟨⟨vs, v, SqL.of hH, hv⟩, fun x H' y => ?_⟩
  obtain ⟨rfl, y⟩ := y
  have e : x = v := Option.some.inj ((y vs (SqL.of hH)).symm.trans hv)
  subst e
  exact ⟨F', .old (rv.mono e1)⟩
theorem itrep_tup {K : PySem.W.Frag} {F : Hp} {a : Addr} {vs : List V} {ds : List D} (h : F a = some (.tup vs)) (r : Reps K F vs ds) : ItRep K (Itt K a) F ds := fun F' H e1 e2 => by
  have hH : H a = some (.tup vs) := e2 _ _ (e1 _ _ h)
  refine ⟨fun i d hd => ?_, ⟨vs, SqT.of hH, by rw [r.length]; exact Nat.le_refl _⟩⟩
  obtain ⟨v, hv, rv⟩ := r.get hd
  refine ⟨⟨vs, v, SqT.of hH, hv⟩, fun x H' y => ?_⟩
  obtain ⟨rfl, y⟩ := y
  have e : x = v := Option.some.inj ((y vs (SqT.of hH)).symm.trans hv)
  subst e
  exact ⟨F', .old (rv.mono e1)⟩
def asSeq (d : D) (k : List D → Prop) : Prop := match d with
  | .lst xs => k xs
  | .tup xs => k xs
  | _ => False
theorem Rep.seq {K : PySem.W.Frag} {F : Hp} {v : V} {d : D} {k : List D → Prop} (r : Rep K F v d) (h : asSeq d k) : ∃ (a : Addr) (q : Bool) (vs : List V) (ds : List D), v = .ref a ∧ F a = some (if q = true then .lst vs else .tup vs) ∧ Reps K F vs ds ∧ k ds := by
  cases r with
  | lst e r => exact ⟨_, true, _, _, rfl, e, r, h⟩
  | tup e r => exact ⟨_, false, _, _, rfl, e, r, h⟩
  | _ => exact h.elim
theorem sqk_of {K : PySem.W.Frag} {H : Hp} {a : Addr} {q : Bool} {vs : List V} (h : H a = some (if q = true then HO.lst vs else .tup vs)) : SqK K q H a vs := by
  cases q with
  | true => exact SqL.of h
  | false => exact SqT.of h
section
variable {X : Cx} {tg : Expr} {l : Expr} {tl : TE} {Tl : TEp} {pos : Pos}
def iAny (K : PySem.W.Frag) (tl : TE) : TI := fun σ H R => tl σ H fun x H1 => ∃ a, x = .ref a ∧ (((∃ xs, SqL K H1 a xs) ∧ R (Itl K a) H1) ∨ ((∃ xs, SqT K H1 a xs) ∧ R (Itt K a) H1))
theorem pi_any (hl : PE X l tl) : PI X tg l (iAny X.K tl) := by
  refine ⟨fun pins s σ H R I h => ?_⟩
  refine thn (hl.run pins s σ H _ I h) fun v s1 ⟨x, H1, I1, r1, q1⟩ => ?_
  obtain ⟨a, e, q1⟩ := q1
  subst e
  cases r1
  rcases q1 with ⟨⟨xs, hq⟩, q⟩ | ⟨⟨xs, hq⟩, q⟩
  · obtain ⟨its, rv, p, hz⟩ := I1.list hq
    refine wpAny_pyIter_list p.isList ?_
    refine ⟨s1.heap.objs.size, [s1.heap.objs.size], _, _, H1, rfl, I1.kept (t' := s1.toks) fun b o e => Heap.get?_push_of_some _ e, turn_list a _, ⟨_, Heap.get?_push_size _ rfl, rfl, rfl⟩, fun b hb => ?_, q⟩
    have e : b = s1.heap.objs.size := by simpa using hb
    subst e
    exact I1.fpOk (Nat.le_refl _) (I1.hok.fresh (Nat.le_refl _))
  · obtain ⟨its, rv, p, hz⟩ := I1.tuple hq
    refine wpAny_pyIter_tuple (show s1.heap.IsTuple a its.toArray from p) ?_
    refine ⟨s1.heap.objs.size, [s1.heap.objs.size], _, _, H1, rfl, I1.kept (t' := s1.toks) fun b o e => Heap.get?_push_of_some _ e, turn_tuple a _, ⟨_, Heap.get?_push_size _ rfl, rfl, rfl⟩, fun b hb => ?_, q⟩
    have e : b = s1.heap.objs.size := by simpa using hb
    subst e
    exact I1.fpOk (Nat.le_refl _) (I1.hok.fresh (Nat.le_refl _))
def jSeq (Tl : TEp) : TAp := fun ρ Q => Tl ρ fun x ρ1 => asSeq x fun xs => Q xs ρ1
theorem ppi_seq (hl : PPE X l tl Tl) : PPI X tg l (iAny X.K tl) (jSeq Tl) := ⟨pi_any hl.pe, fun G F H σ ρ Q R S h k =>
  hl.snd G F H σ ρ _ _ S h fun v d F' H' ρ' u S' rv q => by
    cases rv with
    | lst e r => exact ⟨_, rfl, .inl ⟨⟨_, SqL.of (S'.hF _ _ e)⟩, k _ _ F' H' ρ' u S' (itrep_list e r) q⟩⟩
    | tup e r => exact ⟨_, rfl, .inr ⟨⟨_, SqT.of (S'.hF _ _ e)⟩, k _ _ F' H' ρ' u S' (itrep_tup e r) q⟩⟩
    | _ => exact q.elim⟩
def rangeD (lo : Int) (n : Nat) : List D := (List.range n).map fun (i : Nat) => .int (lo + (i : Int))
theorem itrep_range {K : PySem.W.Frag} {F : Hp} (lo : Int) (n : Nat) : ItRep K (Itr lo n) F (rangeD lo n) := fun F' H e1 e2 => by
  refine ⟨fun i d hd => ?_, ?_⟩
  · have hi : i < n := by have := lt_of_get hd; simpa [rangeD] using this
    refine ⟨hi, fun x H' y => ?_⟩
    obtain ⟨rfl, rfl⟩ := y
    have e : d = .int (lo + i) := by
      unfold rangeD at hd
      rw [List.getElem?_map, List.getElem?_range hi] at hd
      exact (Option.some.inj hd).symm
    subst e
    exact ⟨F', .old (.int _)⟩
  · show n ≤ (rangeD lo n).length
    simp [rangeD]
def jRng1 (T : TAp) : TAp := fun ρ Q => T ρ fun ds ρ1 => match ds with | [.int j] => -(2 ^ 62) ≤ j ∧ j < 2 ^ 62 ∧ Q (rangeD 0 j.toNat) ρ1 | _ => False
theorem Reps.int1 {K : PySem.W.Frag} {F : Hp} {vs : List V} {j : Int} (r : Reps K F vs [.int j]) : vs = [.int j] := by
  cases r with
  | cons h t => cases h; cases t; rfl
theorem Reps.int2 {K : PySem.W.Frag} {F : Hp} {vs : List V} {i j : Int} (r : Reps K F vs [.int i, .int j]) : vs = [.int i, .int j] := by
  cases r with
  | cons h t => cases h; rw [t.int1]
theorem ppi_range1 {a : Expr} {ta : TA} {TA' : TAp} {p : Pos} (hg : Gl X "range") (hm : X.mg "range" = none) (ha : PPA X [a] ta TA') (hs : starEach [a] X.env = [(false, eval a X.env)] := by rfl) : PPI X tg (.Call (.Name "range" p) [a] [] pos) (iRng1 ta) (jRng1 TA') := ⟨pi_range1 hg hm ha.pa hs, fun G F H σ ρ Q R S h k =>
  ha.snd G F H σ ρ _ _ S h fun vs ds F' H' ρ' u S' rv q => by
    match ds, rv, q with
    | [.int j], rv, q => exact ⟨j, rv.int1, q.1, q.2.1, k _ _ F' H' ρ' u S' (itrep_range 0 _) q.2.2⟩⟩
def jRng2 (T : TAp) : TAp := fun ρ Q => T ρ fun ds ρ1 => match ds with | [.int i, .int j] => (-(2 ^ 62) ≤ i ∧ i < 2 ^ 62 ∧ -(2 ^ 62) ≤ j ∧ j < 2 ^ 62) ∧ Q (rangeD i (j - i).toNat) ρ1 | _ => False
theorem ppi_range2 {a b : Expr} {ta : TA} {TA' : TAp} {p : Pos} (hg : Gl X "range") (hm : X.mg "range" = none) (ha : PPA X [a, b] ta TA') (hs : starEach [a, b] X.env = [(false, eval a X.env), (false, eval b X.env)] := by rfl) (hs2 : starEach [b] X.env = [(false, eval b X.env)] := by rfl) : PPI X tg (.Call (.Name "range" p) [a, b] [] pos) (iRng2 ta) (jRng2 TA') := ⟨pi_range2 hg hm ha.pa hs hs2, fun G F H σ ρ Q R S h k =>
  ha.snd G F H σ ρ _ _ S h fun vs ds F' H' ρ' u S' rv q => by
    match ds, rv, q with
    | [.int i, .int j], rv, q => exact ⟨i, j, rv.int2, q.1, k _ _ F' H' ρ' u S' (itrep_range i _) q.2⟩⟩
theorem get_zipWith {α β γ : Type} {f : α → β → γ} {xs : List α} {ys : List β} {i : Nat} {z : γ} (h : (List.zipWith f xs ys)[i]? = some z) : ∃ x y, xs[i]? = some x ∧ ys[i]? = some y ∧ z = f x y := by
  rw [List.getElem?_zipWith] at h
  cases e1 : xs[i]? with
  | none => rw [e1] at h; simp at h
  | some x =>
    cases e2 : ys[i]? with
    | none => rw [e1, e2] at h; simp at h
    | some y => rw [e1, e2] at h; exact ⟨x, y, rfl, rfl, by simpa using h.symm⟩
def zipD (xs ys : List D) : List D := List.zipWith (fun x y => .tup [x, y]) xs ys
theorem itrep_z2 {K : PySem.W.Frag} {F : Hp} {k1 k2 : Bool} {a b : Addr} {vs ws : List V} {xs ys : List D} (h1 : F a = some (if k1 = true then .lst vs else .tup vs)) (h2 : F b = some (if k2 = true then .lst ws else .tup ws)) (r1 : Reps K F vs xs) (r2 : Reps K F ws ys) : ItRep K (ItZ2 K k1 a k2 b) F (zipD xs ys) := fun F' H e1 e2 => by
  have s1 : SqK K k1 H a vs := sqk_of (e2 _ _ (e1 _ _ h1))
  have s2 : SqK K k2 H b ws := sqk_of (e2 _ _ (e1 _ _ h2))
  refine ⟨fun i d hd => ?_, ⟨vs, ws, s1, s2, by simp [zipD, r1.length, r2.length]⟩⟩
  obtain ⟨x, y, hx, hy, rfl⟩ := get_zipWith hd
  obtain ⟨v, hv, rv⟩ := r1.get hx
  obtain ⟨w, hw, rw'⟩ := r2.get hy
  refine ⟨⟨vs, ws, v, w, s1, s2, hv, hw⟩, fun z H' q => ?_⟩
  obtain ⟨T, v', w', rfl, hT, rfl, f1, f2⟩ := q
  have ev : v' = v := Option.some.inj ((f1 _ s1).symm.trans hv)
  have ew : w' = w := Option.some.inj ((f2 _ s2).symm.trans hw)
  subst ev ew
  have hn : F' T = none := e2.free hT
  exact ⟨_, .new hT (.tup upd_same (.cons ((rv.mono e1).mono (same_new hn)) (.cons ((rw'.mono e1).mono (same_new hn)) .nil)))⟩
def jZ2 (T : TAp) : TAp := fun ρ Q => T ρ fun ds ρ1 => match ds with | [x, y] => asSeq x fun xs => asSeq y fun ys => Q (zipD xs ys) ρ1 | _ => False
theorem ppi_z2 {e e2 : Expr} {ta : TA} {TA' : TAp} {p tpos : Pos} {elts : List Expr} {kk : Nat} (hg : Gl X "zip") (hm : X.mg "zip" = none) (ha : PPA X [e, e2] ta TA')
    (hs : starEach [e, e2] X.env = (false, eval e X.env) :: starEach [e2] X.env := by rfl) (hpl : (backTo pos (starEach [e2] X.env)).any (·.1) = false := by rfl) :
    PPI X (.Tuple elts kk tpos) (.Call (.Name "zip" p) [e, e2] [] pos) (iZ2 X.K ta) (jZ2 TA') := ⟨pi_z2 hg hm ha.pa hs hpl, fun G F H σ ρ Q R S h k =>
  ha.snd G F H σ ρ _ _ S h fun vs ds F' H' ρ' u S' rv q => by
    match ds, rv, q with
    | [x, y], .cons rx (.cons ry .nil), q =>
      obtain ⟨a, k1, ws, xs, rfl, h1, r1, q⟩ := rx.seq q
      obtain ⟨b, k2, zs, ys, rfl, h2, r2, q⟩ := ry.seq q
      exact ⟨k1, k2, a, b, ws, zs, rfl, sqk_of (S'.hF _ _ h1), sqk_of (S'.hF _ _ h2), k _ _ F' H' ρ' u S' (itrep_z2 h1 h2 r1 r2) q⟩⟩
def enumD (n : Nat) : List D → List D
  | [] => []
  | x :: xs => .tup [.int n, x] :: enumD (n + 1) xs
theorem enumD_get : ∀ {xs : List D} {n i : Nat} {d : D}, (enumD n xs)[i]? = some d → ∃ x, xs[i]? = some x ∧ d = .tup [.int (n + i : Nat), x]
  | x :: xs, n, 0, d, h => ⟨x, rfl, (Option.some.inj h).symm⟩
  | x :: xs, n, i + 1, d, h => by
    obtain ⟨a, h1, h2⟩ := enumD_get (xs := xs) (n := n + 1) (i := i) (d := d) h
    exact ⟨a, h1, by rw [h2, show n + 1 + i = n + (i + 1) by omega]⟩
  | [], _, _, _, h => by simp [enumD] at h
theorem enumD_len : ∀ (xs : List D) (n : Nat), (enumD n xs).length = xs.length
  | [], _ => rfl
  | x :: xs, n => by simp [enumD, enumD_len xs (n + 1)]
theorem itrep_e {K : PySem.W.Frag} {F : Hp} {k : Bool} {a : Addr} {vs : List V} {xs : List D} (h1 : F a = some (if k = true then .lst vs else .tup vs)) (r1 : Reps K F vs xs) : ItRep K (ItE K k a) F (enumD 0 xs) := fun F' H e1 e2 => by
  have s1 : SqK K k H a vs := sqk_of (e2 _ _ (e1 _ _ h1))
  refine ⟨fun i d hd => ?_, ⟨vs, s1, by rw [enumD_len, r1.length]⟩⟩
  obtain ⟨x, hx, rfl⟩ := enumD_get hd
  obtain ⟨v, hv, rv⟩ := r1.get hx
  refine ⟨⟨vs, v, s1, hv⟩, fun z H' q => ?_⟩
  obtain ⟨T, v', rfl, hT, rfl, f1⟩ := q
  have ev : v' = v := Option.some.inj ((f1 _ s1).symm.trans hv)
  subst ev
  have hn : F' T = none := e2.free hT
  rw [Nat.zero_add]
  exact ⟨_, .new hT (.tup upd_same (.cons (.int _) (.cons ((rv.mono e1).mono (same_new hn)) .nil)))⟩
def jE (T : TAp) : TAp := fun ρ Q => T ρ fun ds ρ1 => match ds with | [x] => asSeq x fun xs => Q (enumD 0 xs) ρ1 | _ => False
theorem ppi_e {e : Expr} {ta : TA} {TA' : TAp} {p tpos : Pos} {elts : List Expr} {kk : Nat} (hg : Gl X "enumerate") (hm : X.mg "enumerate" = none) (ha : PPA X [e] ta TA') (hs : starEach [e] X.env = [(false, eval e X.env)] := by rfl) :
    PPI X (.Tuple elts kk tpos) (.Call (.Name "enumerate" p) [e] [] pos) (iE X.K ta) (jE TA') := ⟨pi_e hg hm ha.pa hs, fun G F H σ ρ Q R S h k =>
  ha.snd G F H σ ρ _ _ S h fun vs ds F' H' ρ' u S' rv q => by
    match ds, rv, q with
    | [x], .cons rx .nil, q =>
      obtain ⟨a, k1, ws, xs, rfl, h1, r1, q⟩ := rx.seq q
      exact ⟨k1, a, ws, rfl, sqk_of (S'.hF _ _ h1), k _ _ F' H' ρ' u S' (itrep_e h1 r1) q⟩⟩
end
def forW (g : TGp) (tb : TSp) (P : PEnds) : List D → Ro → Prop
  | [], ρ => P.nx ρ
  | d :: ds, ρ => g d ρ fun ρ1 => tb { P with nx := forW g tb P ds, ct := forW g tb P ds, bk := P.nx } ρ1
def pFor (Ti : TAp) (g : TGp) (tb : TSp) : TSp := fun P ρ => Ti ρ fun ds ρ1 => forW g tb P ds ρ1
theorem snd_for {K : PySem.W.Frag} {wi : TI} {Ti : TAp} {g : TG} {Gp : TGp} {is : List Nat} {tb : TS} {Tb : TSp} (hi : SndI K wi Ti) (hg : SndG K g Gp is) (hb : SndS K tb Tb) : SndS K (tFor wi g tb) (pFor Ti Gp Tb) := fun G F H σ ρ P D S h r =>
  hi G F H σ ρ _ _ S h fun J ds F1 H1 ρ1 u1 S1 J1 w1 => by
    refine ⟨fun i m σ' H' => m + i = ds.length ∧ ∃ F' ρ', Up G F1 F' ∧ Sim K G F' H' σ' ρ' ∧ forW Gp Tb P (ds.drop i) ρ', ⟨ds.length, by omega, F1, ρ1, .refl _ _, S1, w1⟩, fun i m σ' H' hW => ?_⟩
    obtain ⟨hm, F', ρ', u', S', w'⟩ := hW
    have J' := J1 F' H' u'.ex S'.hF
    by_cases hlt : i < ds.length
    · refine .inr ⟨(J'.1 i ds[i] (List.getElem?_eq_getElem hlt)).1, fun σ'' H'' => ∃ F'' ρ'', Up G F1 F'' ∧ Sim K G F'' H'' σ'' ρ'' ∧ forW Gp Tb P (ds.drop (i + 1)) ρ'', fun σ'' H'' q => ⟨m - 1, by omega, by omega, q⟩, fun x H'' hy => ?_⟩
      obtain ⟨F2, res⟩ := (J'.1 i ds[i] (List.getElem?_eq_getElem hlt)).2 x H'' hy
      obtain ⟨u2, S2, r2⟩ := S'.res res
      rw [List.drop_eq_getElem_cons hlt] at w'
      refine hg G F2 H'' σ' ρ' _ _ x _ S2 r2 w' fun F3 H3 σ3 ρ3 u3 S3 _ _ q3 => hb G F3 H3 σ3 ρ3 _ _ S3 q3 ?_
      have up := (u'.trans u2).trans u3
      exact ⟨fun F4 H4 σ4 ρ4 u4 S4 q4 => ⟨F4, ρ4, up.trans u4, S4, q4⟩, fun F4 H4 σ4 ρ4 v c u4 S4 q4 => r.rt F4 H4 σ4 ρ4 v c (u1.trans (up.trans u4)) S4 q4,
        fun F4 H4 σ4 ρ4 u4 S4 q4 => r.nx F4 H4 σ4 ρ4 (u1.trans (up.trans u4)) S4 q4, fun F4 H4 σ4 ρ4 u4 S4 q4 => ⟨F4, ρ4, up.trans u4, S4, q4⟩⟩
    · have e : i = ds.length := by omega
      subst e
      rw [List.drop_length] at w'
      exact .inl ⟨J'.2, r.nx F' H' σ' ρ' (u1.trans u') S' w'⟩
theorem pps_for {X : Cx} {tg iter : Expr} {body : List Stmt} {wi : TI} {Ti : TAp} {g : TG} {Gp : TGp} {is : List Nat} {tb : TS} {Tb : TSp} {pos : Pos} (hp : PassesOwn (model X.prog X.w) X.A X.env X.xe) (hc : X.calm = true) (hi : PPI X tg iter wi Ti) (hg : PTg X tg g Gp is) (hb : PPSs X body tb Tb)
    (hs : ∀ x, foldedSetIterable iter X.env x = pure x := by intro _; rfl) : PPS X (.For tg iter body [] pos) (tFor wi g tb) (pFor Ti Gp Tb) := ⟨ps_for hp hc hi.pi hg.pg hb.ps hs, snd_for hi.snd hg.snd hb.snd⟩
def pWhile (C : TTp) (tb : TSp) : TSp := fun P ρ => ∃ W : Nat → Ro → Prop, (∃ m, W m ρ) ∧ ∀ m ρ, W m ρ → C ρ fun b ρ1 => if b = true then tb { P with nx := fun ρ' => ∃ m', m' < m ∧ W m' ρ', ct := fun ρ' => ∃ m', m' < m ∧ W m' ρ', bk := P.nx } ρ1 else P.nx ρ1
theorem pps_while {X : Cx} {c : Expr} {body : List Stmt} {tc : TT} {C : TTp} {tb : TS} {Tb : TSp} {pos : Pos} (hp : PassesOwn (model X.prog X.w) X.A X.env X.xe) (hc : PPT X c tc C) (hb : PPSs X body tb Tb) : PPS X (.While c body [] pos) (tWhile tc tb) (pWhile C Tb) := ⟨ps_while hp hc.pt hb.ps, fun G F H σ ρ P D S h r => by
  obtain ⟨W, ⟨m, w0⟩, hW⟩ := h
  refine ⟨fun m σ' H' => ∃ F' ρ', Up G F F' ∧ Sim X.K G F' H' σ' ρ' ∧ W m ρ', ⟨m, F, ρ, .refl _ _, S, w0⟩, fun m σ' H' q => ?_⟩
  obtain ⟨F', ρ', u', S', w'⟩ := q
  refine hc.snd G F' H' σ' ρ' _ _ S' (hW m ρ' w') fun b F1 H1 ρ1 u1 S1 q1 => ?_
  cases b with
  | true =>
    refine ite_ti ⟨fun σ2 H2 => ∃ m', m' < m ∧ ∃ F' ρ', Up G F F' ∧ Sim X.K G F' H2 σ2 ρ' ∧ W m' ρ', fun σ2 H2 q => q, hb.snd G F1 H1 σ' ρ1 _ _ S1 (ite_t q1) ?_⟩
    have up := u'.trans u1
    exact ⟨fun F4 H4 σ4 ρ4 u4 S4 ⟨m', l, q4⟩ => ⟨m', l, F4, ρ4, up.trans u4, S4, q4⟩, fun F4 H4 σ4 ρ4 v c u4 S4 q4 => r.rt F4 H4 σ4 ρ4 v c (up.trans u4) S4 q4,
      fun F4 H4 σ4 ρ4 u4 S4 q4 => r.nx F4 H4 σ4 ρ4 (up.trans u4) S4 q4, fun F4 H4 σ4 ρ4 u4 S4 ⟨m', l, q4⟩ => ⟨m', l, F4, ρ4, up.trans u4, S4, q4⟩⟩
  | false => exact ite_fi (r.nx F1 H1 σ' ρ1 (u'.trans u1) S1 (ite_f q1))⟩
end Pl
namespace Pl
open PySem PySem.Spec PyProof.Rows L2
variable [TJ]
def valOnly : Option (Option Cell) → Option Cell
  | some (some (.val d)) => some (.val d)
  | _ => none
def wipeP (ρ : Ro) : List Nat → Ro
  | [] => ρ
  | v :: vs => (wipeP ρ vs).set v none
def restore (ρ0 ρ : Ro) : List Nat → Ro
  | [] => ρ
  | v :: vs => (restore ρ0 ρ vs).set v (valOnly ρ0[v]?)
theorem wipe_get {σ : L2.St} : ∀ {vs : List Nat} {j : Nat}, (wipe σ vs)[j]? = if j ∈ vs ∧ j < σ.length then some none else σ[j]?
  | [], j => by simp [wipe]
  | v :: vs, j => by
    show ((wipe σ vs).set v none)[j]? = _
    by_cases h : v = j
    · subst h
      by_cases hl : v < σ.length
      · rw [List.getElem?_set_self (by rw [wipe_length]; exact hl), if_pos ⟨by simp, hl⟩]
      · rw [List.getElem?_eq_none (by simp [wipe_length]; omega), if_neg (fun q => hl q.2), List.getElem?_eq_none (by omega)]
    · rw [List.getElem?_set_ne h, wipe_get]
      have e : (j ∈ v :: vs) ↔ j ∈ vs := by
        constructor
        · intro q
          rcases List.mem_cons.mp q with q | q
          · exact absurd q.symm h
          · exact q
        · exact List.mem_cons_of_mem _
      simp only [e]
theorem wipe_eq {σ σ2 : L2.St} {vs : List Nat} (hl : σ2.length = σ.length) (h : ∀ j, j ∉ vs → σ2[j]? = (wipe σ vs)[j]?) : wipe σ2 vs = wipe σ vs := by
  apply List.ext_getElem?
  intro j
  rw [wipe_get, wipe_get]
  by_cases hj : j ∈ vs
  · by_cases hlt : j < σ.length
    · rw [if_pos ⟨hj, by omega⟩, if_pos ⟨hj, hlt⟩]
    · rw [if_neg (fun q => hlt (by omega)), if_neg (fun q => hlt q.2), List.getElem?_eq_none (by omega), List.getElem?_eq_none (by omega)]
  · have e := h j hj
    rw [wipe_get, if_neg (fun q => hj q.1)] at e
    rw [if_neg (fun q => hj q.1), if_neg (fun q => hj q.1)]
    exact e
section
variable {K : PySem.W.Frag} {G F H : Hp} {σ : L2.St} {ρ : Ro}
theorem Sim.wipe (S : Sim K G F H σ ρ) : ∀ vs : List Nat, Sim K G F H (L2.wipe σ vs) (wipeP ρ vs)
  | [] => S
  | v :: vs => (Sim.wipe S vs).forget v none
theorem Sim.updFree (S : Sim K G F H σ ρ) {p : Addr} {vs ws : List V} (hH : H p = some (.lst vs)) (hF : F p = none) (hG : G p = none) (hn : NotOwn ρ p) : Sim K G F (upd H p (.lst ws)) σ ρ where
  hF := fun a x e => by rw [upd_ne (ne_of_none e hF)]; exact S.hF a x e
  hG := S.hG.mut hG hH
  len := S.len
  val := S.val
  own := fun i a xs e => by
    obtain ⟨h1, h2, h3, vs, h4, h5⟩ := S.own i a xs e
    have q : a ≠ p := fun z => by subst z; exact hn.1 i xs e
    exact ⟨h1, h2, h3, vs, by rw [upd_ne q]; exact h4, h5⟩
  ne := S.ne
  bx := S.bx.upd' hn.2
theorem Sim.guard (S : Sim K G F H σ ρ) {p : Addr} {vs : List V} (hH : H p = some (.lst vs)) (hn : NotOwn ρ p) : Sim K (upd G p (.lst vs)) F H σ ρ where
  hF := S.hF
  hG := S.hG.guard hH
  len := S.len
  val := S.val
  own := fun i a xs e => by
    obtain ⟨h1, h2, h3, h4⟩ := S.own i a xs e
    have q : a ≠ p := fun z => by subst z; exact hn.1 i xs e
    exact ⟨h1, h2, by rw [upd_ne q]; exact h3, h4⟩
  ne := S.ne
  bx := S.bx.guard hn.2
theorem Sim.unguard {G' : Hp} (S : Sim K G' F H σ ρ) (h : Same G G') : Sim K G F H σ ρ where
  hF := S.hF
  hG := S.hG.less h
  len := S.len
  val := S.val
  own := fun i a xs e => by
    obtain ⟨h1, h2, h3, h4⟩ := S.own i a xs e
    exact ⟨h1, h2, h.free h3, h4⟩
  ne := S.ne
  bx := S.bx.unguard h
theorem restore_len (ρ0 ρ : Ro) : ∀ vs : List Nat, (restore ρ0 ρ vs).length = ρ.length
  | [] => rfl
  | v :: vs => by simp [restore, restore_len ρ0 ρ vs]
theorem restore_get {ρ0 ρ : Ro} {c : Cell} : ∀ {vs : List Nat} {j : Nat}, (restore ρ0 ρ vs)[j]? = some (some c) → (j ∈ vs ∧ ∃ d, c = .val d ∧ ρ0[j]? = some (some (.val d))) ∨ (j ∉ vs ∧ ρ[j]? = some (some c))
  | [], j, h => .inr ⟨by simp, h⟩
  | v :: vs, j, h => by
    by_cases hv : v = j
    · subst hv
      refine .inl ⟨by simp, ?_⟩
      have hl : v < (restore ρ0 ρ vs).length := by
        have := lt_of_get h
        simpa [restore] using this
      have h' : ((restore ρ0 ρ vs).set v (valOnly ρ0[v]?))[v]? = some (some c) := h
      rw [List.getElem?_set_self hl] at h'
      have h'' : valOnly ρ0[v]? = some c := Option.some.inj h'
      cases e : ρ0[v]? with
      | none => rw [e] at h''; cases h''
      | some x =>
        rw [e] at h''
        cases x with
        | none => cases h''
        | some y =>
          cases y with
          | val d => cases h''; exact ⟨d, rfl, rfl⟩
          | own a xs => cases h''
          | box t => cases h''
    · have h' : ((restore ρ0 ρ vs).set v (valOnly ρ0[v]?))[j]? = some (some c) := h
      rw [List.getElem?_set_ne hv] at h'
      rcases restore_get h' with ⟨q, r⟩ | ⟨q, r⟩
      · exact .inl ⟨List.mem_cons_of_mem _ q, r⟩
      · refine .inr ⟨fun z => ?_, r⟩
        rcases List.mem_cons.mp z with z | z
        · exact hv z.symm
        · exact q z
theorem Sim.restore {G' F1 H1 : Hp} {σ2 : L2.St} {ρ2 : Ro} {vs : List Nat} (S : Sim K G F H σ ρ) (S2 : Sim K G' F1 H1 σ2 ρ2) (hG : Same G G') (hF : Same F F1) (hl : σ2.length = σ.length) (hj : ∀ j, j ∉ vs → σ2[j]? = σ[j]?) : Sim K G F1 H1 σ (restore ρ ρ2 vs) where
  hF := S2.hF
  hG := S2.hG.less hG
  len := by rw [restore_len, ← S2.len, hl]
  val := fun i d e => by
    rcases restore_get e with ⟨q, d', e', r⟩ | ⟨q, r⟩
    · cases e'
      obtain ⟨v, h1, h2⟩ := S.val i d r
      exact ⟨v, h1, h2.mono hF⟩
    · obtain ⟨v, h1, h2⟩ := S2.val i d r
      exact ⟨v, (hj i q).symm.trans h1, h2⟩
  own := fun i a xs e => by
    rcases restore_get e with ⟨q, d', e', r⟩ | ⟨q, r⟩
    · cases e'
    · obtain ⟨h1, h2, h3, h4⟩ := S2.own i a xs r
      exact ⟨(hj i q).symm.trans h1, h2, hG.free h3, h4⟩
  ne := fun i j a xs ys e1 e2 => by
    rcases restore_get e1 with ⟨_, _, e', _⟩ | ⟨_, r1⟩
    · cases e'
    · rcases restore_get e2 with ⟨_, _, e', _⟩ | ⟨_, r2⟩
      · cases e'
      · exact S2.ne i j a xs ys r1 r2
  bx := S2.bx.to (.refl _) (fun p m => ⟨(S2.bx.free m).1, hG.free (S2.bx.free m).2.1, rfl⟩) (fun i s e => by
    rcases restore_get e with ⟨_, _, e', _⟩ | ⟨q, r⟩
    · cases e'
    · exact ⟨r, (hj i q).symm⟩) fun i a xs e => by
    rcases restore_get e with ⟨_, _, e', _⟩ | ⟨q, r⟩
    · cases e'
    · exact .inl ⟨i, xs, r⟩
theorem restore_box {ρ0 ρ : Ro} {vs : List Nat} {p : Addr} : InBox (restore ρ0 ρ vs) p → InBox ρ p := fun ⟨i, s, e, m⟩ => by
  rcases restore_get e with ⟨_, _, e', _⟩ | ⟨q, r⟩
  · cases e'
  · exact ⟨i, s, r, m⟩
end
def lcW (vs : List Nat) (g : TGp) (tt : TTp) (te : TEp) (Q : List D → Ro → Prop) : List D → List D → Ro → Prop
  | [], acc, ρ => Q acc ρ
  | d :: ds, acc, ρ => g d (wipeP ρ vs) fun ρ2 => tt ρ2 fun b ρ3 => if b = true then te ρ3 fun y ρ4 => acc.length < sizeLine ∧ lcW vs g tt te Q ds (acc ++ [y]) (restore ρ ρ4 vs) else lcW vs g tt te Q ds acc (restore ρ ρ3 vs)
def pLcO (Ti : TAp) (g : TGp) (tt : TTp) (te : TEp) (vs : List Nat) : TCp := fun ρ Q => Ti ρ fun ds ρ1 => lcW vs g tt te (fun acc ρ2 => ∀ a, Q (.own a acc) ρ2) ds [] ρ1
def pLc (Ti : TAp) (g : TGp) (tt : TTp) (te : TEp) (vs : List Nat) : TEp := fun ρ Q => Ti ρ fun ds ρ1 => lcW vs g tt te (fun acc ρ2 => Q (.lst acc) ρ2) ds [] ρ1
theorem snd_lc {K : PySem.W.Frag} {wi : TI} {Ti : TAp} {g : TG} {Gp : TGp} {is : List Nat} {tt : TT} {Tt : TTp} {te : TE} {Te : TEp} {vs : List Nat} (hi : SndI K wi Ti) (hg : SndG K g Gp is) (ht : SndT K tt Tt) (he : SndE K te Te) (hsub : ∀ i ∈ is, i ∈ vs) : SndC K (tLc wi g tt te vs) (pLcO Ti Gp Tt Te vs) := fun G F H σ ρ Q R S h k =>
  hi G F H σ ρ _ _ S h fun J ds F1 H1 ρ1 u1 S1 J1 w1 => fun D hD => by
    refine ⟨fun i m H' => m + i = ds.length ∧ ∃ F' ρ' acc, Up G F1 F' ∧ Sim K G F' H' (σ ++ [some (.ref D)]) (ρ' ++ [some (.own D acc)]) ∧ lcW vs Gp Tt Te (fun acc ρ2 => ∀ a, Q (.own a acc) ρ2) (ds.drop i) acc ρ', ⟨ds.length, by omega, F1, ρ1, [], .refl _ _, S1.newOwn hD .nil, w1⟩, fun i m H' hW => ?_⟩
    obtain ⟨hm, F', ρ', acc, u', S0, w'⟩ := hW
    have S' := S0.drop
    obtain ⟨_, hFD, hGD, hnD, av, hHD, rD⟩ := S0.lastOwn
    have J' := J1 F' H' u'.ex S'.hF
    by_cases hlt : i < ds.length
    · refine .inr ⟨(J'.1 i ds[i] (List.getElem?_eq_getElem hlt)).1, fun H'' => ∃ F'' ρ'' acc, Up G F1 F'' ∧ Sim K G F'' H'' (σ ++ [some (.ref D)]) (ρ'' ++ [some (.own D acc)]) ∧ lcW vs Gp Tt Te (fun acc ρ2 => ∀ a, Q (.own a acc) ρ2) (ds.drop (i + 1)) acc ρ'', fun H'' q => ⟨m - 1, by omega, by omega, q⟩, fun x H'' hy => ?_⟩
      obtain ⟨F2, res⟩ := (J'.1 i ds[i] (List.getElem?_eq_getElem hlt)).2 x H'' hy
      have Sg : Sim K (upd G D (.lst av)) F' H' σ ρ' := S'.guard hHD hnD
      obtain ⟨u2, S2, r2⟩ := Sg.res res
      have hGG : Same G (upd G D (.lst av)) := same_new hGD
      rw [List.drop_eq_getElem_cons hlt] at w'
      refine hg (upd G D (.lst av)) F2 H'' (wipe σ vs) (wipeP ρ' vs) _ _ x _ (S2.wipe vs) r2 w' fun F3 H3 σ3 ρ3 u3 S3 o3 l3 q3 => ?_
      have hl3 : σ3.length = σ.length := by rw [l3, wipe_length]
      have ho3 : ∀ j, j ∉ vs → σ3[j]? = (wipe σ vs)[j]? := fun j hj => o3 j fun z => hj (hsub j z)
      have hoσ : ∀ j, j ∉ vs → σ3[j]? = σ[j]? := fun j hj => by rw [ho3 j hj, wipe_get, if_neg (fun q => hj q.1)]
      refine ⟨wipe_eq hl3 ho3, ht (upd G D (.lst av)) F3 H3 σ3 ρ3 _ _ S3 q3 fun b F4 H4 ρ4 u4 S4 q4 => ?_⟩
      cases b with
      | true =>
        refine ite_ti (he (upd G D (.lst av)) F4 H4 σ3 ρ4 _ _ S4 (ite_t q4) fun y dy F5 H5 ρ5 u5 S5 r5 q5 => ?_)
        have up := ((u2.trans u3).trans u4).trans u5
        have hH5 : H5 D = some (.lst av) := S5.hG D _ upd_same
        have hF5 : F5 D = none := up.isNone hFD upd_same
        have S6 : Sim K G F5 H5 σ (Pl.restore ρ' ρ5 vs) := S'.restore S5 hGG up.ex hl3 hoσ
        have hn6 : NotOwn (Pl.restore ρ' ρ5 vs) D := ⟨fun j xs e => (by
          rcases restore_get e with ⟨_, _, e', _⟩ | ⟨_, r⟩
          · cases e'
          · have := (S5.own j D xs r).2.2.1
            rw [upd_same] at this; cases this), fun m => S5.bx.notG upd_same (restore_box m)⟩
        have r6 : Reps K F5 (av ++ [y]) (acc ++ [dy]) := (rD.mono up.ex).append (.one r5)
        refine ⟨av, hH5, by rw [rD.length]; exact q5.1, F5, _, acc ++ [dy], u'.trans (up.less hGG), ?_, q5.2⟩
        exact (S6.updFree hH5 hF5 hGD hn6).pushOwn upd_same hF5 hGD hn6 r6
      | false =>
        refine ite_fi ⟨F4, _, acc, u'.trans (((u2.trans u3).trans u4).less hGG), ?_, ite_f q4⟩
        have up := (u2.trans u3).trans u4
        have hH4 : H4 D = some (.lst av) := S4.hG D _ upd_same
        have hF4 : F4 D = none := up.isNone hFD upd_same
        have S6 : Sim K G F4 H4 σ (Pl.restore ρ' ρ4 vs) := S'.restore S4 hGG up.ex hl3 hoσ
        have hn6 : NotOwn (Pl.restore ρ' ρ4 vs) D := ⟨fun j xs e => (by
          rcases restore_get e with ⟨_, _, e', _⟩ | ⟨_, r⟩
          · cases e'
          · have := (S4.own j D xs r).2.2.1
            rw [upd_same] at this; cases this), fun m => S4.bx.notG upd_same (restore_box m)⟩
        exact S6.pushOwn hH4 hF4 hGD hn6 (rD.mono up.ex)
    · have e : i = ds.length := by omega
      subst e
      rw [List.drop_length] at w'
      exact .inl ⟨J'.2, k _ _ F' H' ρ' (u1.trans u') S0 (w' D)⟩
structure PPTs (X : Cx) (ifs : List Expr) (t : TT) (T : TTp) : Prop where
  pt : PTs X ifs t
  snd : SndT X.K t T
def pYes : TTp := fun ρ Q => Q true ρ
theorem ppts_nil {X : Cx} : PPTs X [] tYes pYes := ⟨pts_nil, fun G F H σ ρ Q R S h k => k true F H ρ (.refl _ _) S h⟩
theorem ppts_one {X : Cx} {c : Expr} {t : TT} {T : TTp} (h : PPT X c t T) : PPTs X [c] t T := ⟨pts_one h.pt, h.snd⟩
section
variable {X : Cx} {elt tg iter : Expr} {ifs : List Expr} {scope : Scope} {own : List (Str × Nat)} {pos : Pos} {wi : TI} {Ti : TAp} {g : TG} {Gp : TGp} {is : List Nat} {tt : TT} {Tt : TTp} {te : TE} {Te : TEp} {vs : List Nat}
theorem ppc_lc (hc : X.calm = true) (hN : X.N.Nodup) (hi : PPI X tg iter wi Ti) (ok : BlkOk X.N X.env.scope scope own)
    (hg : ∀ (s : Shared) (H : Hp) (C : Addr) (cl : List (Str × Addr)) (fp : List Addr), PTg (X.blk s H scope (compEnvC scope cl C X.env) fp) tg g Gp is) (ht : ∀ (s : Shared) (H : Hp) (C : Addr) (cl : List (Str × Addr)) (fp : List Addr), PPTs (X.blk s H scope (compEnvC scope cl C X.env) fp) ifs tt Tt)
    (he : ∀ (s : Shared) (H : Hp) (C : Addr) (cl : List (Str × Addr)) (fp : List Addr), PPE (X.blk s H scope (compEnvC scope cl C X.env) fp) elt te Te) (hs : ∀ x, foldedSetIterable iter X.env x = pure x := by intro _; rfl) (hsub : ∀ i ∈ is, i ∈ own.map (·.2) := by decide) :
    PPC X (.ListComp elt [⟨tg, iter, ifs, 0⟩] scope pos) (tLc wi g tt te (own.map (·.2))) (pLcO Ti Gp Tt Te (own.map (·.2))) := by
  refine ⟨pe_lc hc hN hi.pi ok (fun s H C cl fp => (hg s H C cl fp).pg) (fun s H C cl fp => (ht s H C cl fp).pt) (fun s H C cl fp => (he s H C cl fp).pe) hs, ?_⟩
  exact snd_lc hi.snd (hg X.s_0 (fun _ => none) 0 [] []).snd (ht X.s_0 (fun _ => none) 0 [] []).snd (he X.s_0 (fun _ => none) 0 [] []).snd hsub
theorem snd_lcV {K : PySem.W.Frag} {t : TE} (h : SndC K t (pLcO Ti Gp Tt Te vs)) : SndE K t (pLc Ti Gp Tt Te vs) := fun G F H σ ρ Q R S hT k => h G F H σ ρ (fun c ρ' => Q c.froz ρ') R S (by
    unfold pLcO
    unfold pLc at hT
    have e : (fun (acc : List D) (ρ2 : Ro) => ∀ a : Addr, Q (Cell.froz (.own a acc)) ρ2) = fun acc ρ2 => Q (.lst acc) ρ2 := by
      funext acc ρ2
      exact propext ⟨fun q => q 0, fun q _ => q⟩
    show Ti ρ fun ds ρ1 => lcW vs Gp Tt Te (fun acc ρ2 => ∀ a : Addr, Q (Cell.froz (.own a acc)) ρ2) ds [] ρ1
    rw [e]
    exact hT) fun v c F' H' ρ' u S' q => by
  obtain ⟨F2, u2, S2, r2⟩ := S'.froz
  exact k v _ F2 H' ρ' (u.trans u2) S2 r2 q
theorem ppe_lc (hc : X.calm = true) (hN : X.N.Nodup) (hi : PPI X tg iter wi Ti) (ok : BlkOk X.N X.env.scope scope own)
    (hg : ∀ (s : Shared) (H : Hp) (C : Addr) (cl : List (Str × Addr)) (fp : List Addr), PTg (X.blk s H scope (compEnvC scope cl C X.env) fp) tg g Gp is) (ht : ∀ (s : Shared) (H : Hp) (C : Addr) (cl : List (Str × Addr)) (fp : List Addr), PPTs (X.blk s H scope (compEnvC scope cl C X.env) fp) ifs tt Tt)
    (he : ∀ (s : Shared) (H : Hp) (C : Addr) (cl : List (Str × Addr)) (fp : List Addr), PPE (X.blk s H scope (compEnvC scope cl C X.env) fp) elt te Te) (hs : ∀ x, foldedSetIterable iter X.env x = pure x := by intro _; rfl) (hsub : ∀ i ∈ is, i ∈ own.map (·.2) := by decide) :
    PPE X (.ListComp elt [⟨tg, iter, ifs, 0⟩] scope pos) (tLc wi g tt te (own.map (·.2))) (pLc Ti Gp Tt Te (own.map (·.2))) := by
  have h := ppc_lc (pos := pos) hc hN hi ok hg ht he hs hsub
  exact ⟨h.pe, snd_lcV h.snd⟩
theorem pps_setLc {i : Nat} {y : Str} {py spos : Pos} (hc : X.calm = true) (hN : X.N.Nodup) (hi : PPI X tg iter wi Ti) (ok : BlkOk X.N X.env.scope scope own)
    (hg : ∀ (s : Shared) (H : Hp) (C : Addr) (cl : List (Str × Addr)) (fp : List Addr), PTg (X.blk s H scope (compEnvC scope cl C X.env) fp) tg g Gp is) (ht : ∀ (s : Shared) (H : Hp) (C : Addr) (cl : List (Str × Addr)) (fp : List Addr), PPTs (X.blk s H scope (compEnvC scope cl C X.env) fp) ifs tt Tt)
    (he : ∀ (s : Shared) (H : Hp) (C : Addr) (cl : List (Str × Addr)) (fp : List Addr), PPE (X.blk s H scope (compEnvC scope cl C X.env) fp) elt te Te)
    (hy : X.N[i]? = some y := by rfl) (hyl : X.env.scope.names.lookup y = some .local := by rfl)
    (hsw : swapsWith (.ListComp elt [⟨tg, iter, ifs, 0⟩] scope pos) (some (.Name y py)) spos.line X.env = pure true := by exact sw_true rfl rfl rfl (by decide +kernel)) (hs : ∀ x, foldedSetIterable iter X.env x = pure x := by intro _; rfl) (hsub : ∀ i ∈ is, i ∈ own.map (·.2) := by decide) :
    PPS X (.Assign [.Name y py] (.ListComp elt [⟨tg, iter, ifs, 0⟩] scope pos) spos) (tAsg (tLc wi g tt te (own.map (·.2))) (gName i)) (pSet i (pLcO Ti Gp Tt Te (own.map (·.2)))) := by
  have h := ppc_lc (pos := pos) hc hN hi ok hg ht he hs hsub
  exact ⟨ps_setLc hc hN hy hyl hsw hi.pi ok (fun s H C cl fp => (hg s H C cl fp).pg) (fun s H C cl fp => (ht s H C cl fp).pt) (fun s H C cl fp => (he s H C cl fp).pe) hs, snd_set h.snd⟩
end
end Pl
namespace Pl
open PySem PySem.Spec PyProof.Rows L2
variable [TJ]
section
variable {X : Cx} {a b : Expr} {ta tb : TE} {Ta Tb : TEp} {pos : Pos}
theorem Reps.atI {K : PySem.W.Frag} {F : Hp} {vs : List V} {ds : List D} {i : Int} {d : D} (r : Reps K F vs ds) (h : atI ds i = some d) : ∃ v, L2.atI vs i = some v ∧ Rep K F v d := by
  unfold L2.atI at h ⊢
  rw [r.length]
  cases e : ixN ds.length i with
  | none => rw [e] at h; cases h
  | some j => rw [e] at h; exact r.get h
theorem atI_ints {ns : List Int} {i n : Int} (h : L2.atI ns i = some n) : L2.atI (ns.map V.int) i = some (V.int n) := by
  unfold L2.atI at h ⊢
  rw [List.length_map]
  cases e : ixN ns.length i with
  | none => rw [e] at h; cases h
  | some j =>
    rw [e] at h
    show (ns.map V.int)[j]? = some (V.int n)
    have h' : ns[j]? = some n := h
    rw [List.getElem?_map, h']; rfl
def rIxA (K : PySem.W.Frag) : R2 := fun x y H Q => rIxL K x y H Q ∨ (rIxT K x y H Q ∨ rIxS x y H Q)
theorem ix_any : IxR X (rIxA X.K) := IxR.or ix_list (IxR.or ix_tup ix_str)
def fIx : F2 := fun x y Q => match x, y with
  | .lst xs, .int i => ∃ v, atI xs i = some v ∧ Q v
  | .tup xs, .int i => ∃ v, atI xs i = some v ∧ Q v
  | .scr ns, .int i => ∃ n, atI ns i = some n ∧ Q (.int n)
  | .str z, .int i => z.length ≤ sizeLine ∧ ∃ c, atI z.cps.toList i = some c ∧ Q (.str ⟨#[c]⟩)
  | _, _ => False
theorem opp_ix {K : PySem.W.Frag} : OpP K (rIxA K) fIx := fun F H x y dx dy Q R hs rx ry hf k => by
  cases rx with
  | lst h1 r1 =>
    cases ry with
    | int i =>
      obtain ⟨d, e, q⟩ := hf
      obtain ⟨v, e', r⟩ := r1.atI e
      exact .inl ⟨_, _, i, v, rfl, rfl, SqL.of (hs _ _ h1), e', k _ _ _ _ (.old r) q⟩
    | _ => exact hf.elim
  | tup h1 r1 =>
    cases ry with
    | int i =>
      obtain ⟨d, e, q⟩ := hf
      obtain ⟨v, e', r⟩ := r1.atI e
      exact .inr (.inl ⟨_, _, i, v, rfl, rfl, SqT.of (hs _ _ h1), e', k _ _ _ _ (.old r) q⟩)
    | _ => exact hf.elim
  | scr h1 =>
    cases ry with
    | int i =>
      obtain ⟨n, e, q⟩ := hf
      exact .inl ⟨_, _, i, _, rfl, rfl, hs.seq h1, atI_ints e, k _ _ _ _ (.old (.int _)) q⟩
    | _ => exact hf.elim
  | str z =>
    cases ry with
    | int i =>
      obtain ⟨hz, c, e, q⟩ := hf
      exact .inr (.inr ⟨z, i, c, rfl, rfl, hz, e, k _ _ _ _ (.old (.str _)) q⟩)
    | _ => exact hf.elim
  | _ => exact hf.elim
theorem ppe_ix (ha : PPE X a ta Ta) (hb : PPE X b tb Tb) (hs : PlainIx b := by exact fun _ _ => rfl) : PPE X (.Subscript a b pos) (tOp (rIxA X.K) ta tb) (pOp fIx Ta Tb) := ⟨pe_ix ix_any ha.pe hb.pe hs, snd_op opp_ix ha.snd hb.snd⟩
def pIxO (i : Nat) (Tb : TEp) : TEp := fun ρ Q => match ρ[i]? with
  | some (some (.own a _)) => Tb ρ fun y ρ1 => ∃ xs1 k v, ρ1[i]? = some (some (.own a xs1)) ∧ y = .int k ∧ atI xs1 k = some v ∧ Q v ρ1
  | some (some (.val d)) => Tb ρ fun y ρ1 => fIx d y fun z => Q z ρ1
  | _ => False
theorem ppe_ixO (i : Nat) {x : Str} {p : Pos} (hb : PPE X b tb Tb) (hs : PlainIx b := by exact fun _ _ => rfl) (hN : X.N[i]? = some x := by rfl) (hv : Vis X.env.scope x := by first | exact Or.inl rfl | exact Or.inr (Or.inl rfl) | exact Or.inr (Or.inr rfl)) (hd : (x == ("__debug__" : Str)) = false := by decide)
    (hcd : (x == ("__classdict__" : Str)) = false := by decide) : PPE X (.Subscript (.Name x p) b pos) (tOp (rIxA X.K) (tVar i) tb) (pIxO i Tb) := ⟨pe_ix ix_any (pe_var hN hv hd hcd) hb.pe hs, fun G F H σ ρ Q R S hT k => by
  unfold pIxO at hT
  split at hT
  · rename_i a xs e
    refine ⟨.ref a, (S.own i a xs e).1, hb.snd G F H σ ρ _ _ S hT fun y dy F1 H1 ρ1 u1 S1 r1 q1 => ?_⟩
    obtain ⟨xs1, kk, v, e1, rfl, e2, q⟩ := q1
    obtain ⟨h1, h2, h3, vs, h4, h5⟩ := S1.own i a xs1 e1
    obtain ⟨w, ew, rw'⟩ := h5.atI e2
    cases r1
    exact .inl ⟨a, vs, kk, w, rfl, rfl, SqL.of h4, ew, k _ _ F1 H1 ρ1 u1 S1 rw' q⟩
  · rename_i d e
    obtain ⟨v, h1, h2⟩ := S.val i d e
    refine ⟨v, h1, hb.snd G F H σ ρ _ _ S hT fun y dy F1 H1 ρ1 u1 S1 r1 q1 => ?_⟩
    refine opp_ix F1 H1 v y d dy _ _ S1.hF (h2.mono u1.ex) r1 q1 fun w dw F2 H2 res q => ?_
    obtain ⟨u2, S2, r2⟩ := S1.res res
    exact k w dw F2 H2 ρ1 (u1.trans u2) S2 r2 q
  · exact hT.elim⟩
theorem Reps.cut {K : PySem.W.Frag} {F : Hp} {vs : List V} {ds : List D} (r : Reps K F vs ds) (lo hi : Option Int) : Reps K F (cutV vs lo hi) ((ds.drop (HT.sIx ds.length 0 lo)).take (HT.sIx ds.length ds.length hi - HT.sIx ds.length 0 lo)) := by
  unfold cutV
  rw [r.length]
  exact (r.drop _).take _
def cutD (xs : List D) (lo hi : Option Int) : List D := (xs.drop (HT.sIx xs.length 0 lo)).take (HT.sIx xs.length xs.length hi - HT.sIx xs.length 0 lo)
def rSlX (K : PySem.W.Frag) : V → Option Int → Option Int → Hp → VK → Prop := fun x lo hi H Q => rSlL K x lo hi H Q ∨ rSlA K x lo hi H Q
theorem sl_any : SlR X (rSlX X.K) := SlR.or sl_list sl_tupA
abbrev TOp := Ro → (Option Int → Ro → Prop) → Prop
def pNoPart : TOp := fun ρ Q => Q none ρ
def pPart (T : TEp) : TOp := fun ρ Q => T ρ fun x ρ1 => match x with | .int i => Q (some i) ρ1 | _ => False
def SndO (K : PySem.W.Frag) (t : TO) (T : TOp) : Prop := ∀ (G F H : Hp) (σ : L2.St) (ρ : Ro) (Q : Option Int → Ro → Prop) (R : Option Int → Hp → Prop), Sim K G F H σ ρ → T ρ Q →
  (∀ o F' H' ρ', Up G F F' → Sim K G F' H' σ ρ' → Q o ρ' → R o H') → t σ H R
structure PPO (X : Cx) (e : Option Expr) (t : TO) (T : TOp) : Prop where
  po : PO X e t
  snd : SndO X.K t T
theorem ppo_none : PPO X none tNoPart pNoPart := ⟨po_none, fun G F H σ ρ Q R S h k => k none F H ρ (.refl _ _) S h⟩
theorem ppo_some (h : PPE X a ta Ta) : PPO X (some a) (tPart ta) (pPart Ta) := ⟨po_some h.pe, fun G F H σ ρ Q R S hT k => h.snd G F H σ ρ _ _ S hT fun v d F' H' ρ' u S' r q => by
  cases r with
  | int i => exact ⟨i, rfl, k _ F' H' ρ' u S' q⟩
  | _ => exact q.elim⟩
def fSl (x : D) (lo hi : Option Int) (Q : D → Prop) : Prop := match x with
  | .lst xs => Q (.lst (cutD xs lo hi))
  | .tup xs => Q (.tup (cutD xs lo hi))
  | _ => False
theorem cutD_all {xs : List D} {lo hi : Option Int} (h : HT.sIx xs.length 0 lo = 0 ∧ HT.sIx xs.length xs.length hi = xs.length) : cutD xs lo hi = xs := by
  unfold cutD
  rw [h.1, h.2]
  simp
def pSl (Te : TEp) (Tl Th : TOp) : TEp := fun ρ Q => Te ρ fun x ρ1 => Tl ρ1 fun l ρ2 => Th ρ2 fun u ρ3 => fSl x l u fun z => Q z ρ3
theorem ppe_slice {lo hi : Option Expr} {tl th : TO} {Tl Th : TOp} {p2 : Pos} (ha : PPE X a ta Ta) (hl : PPO X lo tl Tl) (hh : PPO X hi th Th) : PPE X (.Subscript a (.Slice lo hi none p2) pos) (tSl (rSlX X.K) ta tl th) (pSl Ta Tl Th) := ⟨pe_slice sl_any ha.pe hl.po hh.po, fun G F H σ ρ Q R S hT k =>
  ha.snd G F H σ ρ _ _ S hT fun v d F1 H1 ρ1 u1 S1 r1 q1 => hl.snd G F1 H1 σ ρ1 _ _ S1 q1 fun l F2 H2 ρ2 u2 S2 q2 => hh.snd G F2 H2 σ ρ2 _ _ S2 q2 fun h F3 H3 ρ3 u3 S3 q3 => by
    have r3 := (r1.mono u2.ex).mono u3.ex
    have up := (u1.trans u2).trans u3
    cases r3 with
    | lst e r =>
      refine .inl ⟨_, _, rfl, SqL.of (S3.hF _ _ e), fun p hp => k _ _ _ _ ρ3 (up.trans (S3.upNew hp)) (S3.new hp) (.lst upd_same ((r.mono (same_new (S3.freshF hp))).cut l h)) q3⟩
    | tup e r =>
      refine .inr ⟨_, _, rfl, SqT.of (S3.hF _ _ e), fun hw => ?_, fun _ p hp => k _ _ _ _ ρ3 (up.trans (S3.upNew hp)) (S3.new hp) (.tup upd_same ((r.mono (same_new (S3.freshF hp))).cut l h)) q3⟩
      rw [r.length] at hw
      have q3' : Q _ ρ3 := q3
      rw [cutD_all hw] at q3'
      exact k _ _ F3 H3 ρ3 up S3 (.tup e r) q3'
    | _ => exact q3.elim⟩
def fRev (x : D) (Q : D → Prop) : Prop := match x with
  | .lst xs => Q (.lst xs.reverse)
  | .tup xs => Q (.tup xs.reverse)
  | _ => False
theorem ppe_rev {k : Nat} {p1 p2 p3 : Pos} (ha : PPE X a ta Ta) : PPE X (.Subscript a (.Slice none none (some (.UnaryOp .USub (.Constant (.int 1) k p1) p2)) p3) pos) (tRevA X.K ta) (pUn fRev Ta) := ⟨pe_revA ha.pe, fun G F H σ ρ Q R S hT kk =>
  ha.snd G F H σ ρ _ _ S hT fun v d F1 H1 ρ1 u1 S1 r1 q1 => by
    cases r1 with
    | lst e r => exact ⟨_, _, rfl, .inl ⟨SqL.of (S1.hF _ _ e), fun p hp => kk _ _ _ _ ρ1 (u1.trans (S1.upNew hp)) (S1.new hp) (.lst upd_same (r.mono (same_new (S1.freshF hp))).reverse) q1⟩⟩
    | tup e r => exact ⟨_, _, rfl, .inr ⟨SqT.of (S1.hF _ _ e), fun p hp => kk _ _ _ _ ρ1 (u1.trans (S1.upNew hp)) (S1.new hp) (.tup upd_same (r.mono (same_new (S1.freshF hp))).reverse) q1⟩⟩
    | _ => exact q1.elim⟩
abbrev FC := List D → (D → Prop) → Prop
theorem Reps.inv1 {K : PySem.W.Frag} {F : Hp} {vs : List V} {d : D} (r : Reps K F vs [d]) : ∃ v, vs = [v] ∧ Rep K F v d := by
  cases r with | cons h t => cases t; exact ⟨_, rfl, h⟩
theorem Rep.lstInv {K : PySem.W.Frag} {F : Hp} {v : V} {xs : List D} (r : Rep K F v (.lst xs)) : ∃ a vs, v = .ref a ∧ F a = some (.lst vs) ∧ Reps K F vs xs := by
  cases r with | lst e r => exact ⟨_, _, rfl, e, r⟩
theorem Rep.tupInv {K : PySem.W.Frag} {F : Hp} {v : V} {xs : List D} (r : Rep K F v (.tup xs)) : ∃ a vs, v = .ref a ∧ F a = some (.tup vs) ∧ Reps K F vs xs := by
  cases r with | tup e r => exact ⟨_, _, rfl, e, r⟩
theorem Rep.intInv {K : PySem.W.Frag} {F : Hp} {v : V} {i : Int} (r : Rep K F v (.int i)) : v = .int i := by cases r; rfl
theorem Rep.blInv {K : PySem.W.Frag} {F : Hp} {v : V} {i : Bool} (r : Rep K F v (.bl i)) : v = .bl i := by cases r; rfl
theorem Rep.strInv {K : PySem.W.Frag} {F : Hp} {v : V} {i : Str} (r : Rep K F v (.str i)) : v = .str i := by cases r; rfl
theorem Rep.scrInv {K : PySem.W.Frag} {F : Hp} {v : V} {ns : List Int} (r : Rep K F v (.scr ns)) : ∃ a, v = .ref a ∧ SqL K F a (ns.map V.int) := by cases r with | scr h => exact ⟨_, rfl, h⟩
def fLen : FC := fun ds Q => match ds with
  | [.lst xs] => Q (.int xs.length)
  | [.tup xs] => Q (.int xs.length)
  | [.scr ns] => Q (.int ns.length)
  | [.str z] => z.length ≤ sizeLine ∧ Q (.int z.length)
  | _ => False
def rLenA (K : PySem.W.Frag) : List V → Hp → VK → Prop := fun xs H Q => (∃ p ys, xs = [.ref p] ∧ (SqL K H p ys ∨ SqT K H p ys) ∧ Q (.int ys.length) H) ∨ (∃ z, xs = [.str z] ∧ z.length ≤ sizeLine ∧ Q (.int z.length) H)
theorem cr_lenA : CallR X (.builtin "len") (rLenA X.K) := CallR.or call_len_seq call_len_str
theorem cp_len {K : PySem.W.Frag} : CallP K (rLenA K) fLen := fun F H xs ds Q R hs r hf k => by
  unfold fLen at hf
  split at hf
  · obtain ⟨v, rfl, q1⟩ := r.inv1
    obtain ⟨a, vs, rfl, e, q2⟩ := q1.lstInv
    exact .inl ⟨a, vs, rfl, .inl (SqL.of (hs _ _ e)), by rw [q2.length]; exact k _ _ _ _ (.old (.int _)) hf⟩
  · obtain ⟨v, rfl, q1⟩ := r.inv1
    obtain ⟨a, vs, rfl, e, q2⟩ := q1.tupInv
    exact .inl ⟨a, vs, rfl, .inr (SqT.of (hs _ _ e)), by rw [q2.length]; exact k _ _ _ _ (.old (.int _)) hf⟩
  · obtain ⟨v, rfl, q1⟩ := r.inv1
    obtain ⟨a, rfl, e⟩ := q1.scrInv
    exact .inl ⟨a, _, rfl, .inl (hs.seq e), by rw [List.length_map]; exact k _ _ _ _ (.old (.int _)) hf⟩
  · obtain ⟨v, rfl, q1⟩ := r.inv1
    have := q1.strInv
    subst this
    exact .inr ⟨_, rfl, hf.1, k _ _ _ _ (.old (.int _)) hf.2⟩
  · exact hf.elim
def pLenO (i : Nat) : TEp := fun ρ Q => match ρ[i]? with
  | some (some (.own _ xs)) => Q (.int xs.length) ρ
  | some (some (.val d)) => fLen [d] fun z => Q z ρ
  | _ => False
theorem ppe_lenO (i : Nat) {x : Str} {p q : Pos} (hg : Gl X "len") (hm : X.mg "len" = none) (hN : X.N[i]? = some x := by rfl) (hv : Vis X.env.scope x := by first | exact Or.inl rfl | exact Or.inr (Or.inl rfl) | exact Or.inr (Or.inr rfl)) (hd : (x == ("__debug__" : Str)) = false := by decide)
    (hcd : (x == ("__classdict__" : Str)) = false := by decide) (he : starEach [.Name x q] X.env = [(false, eval (.Name x q) X.env)] := by rfl) : PPE X (.Call (.Name "len" p) [.Name x q] [] pos) (tCB (rLenA X.K) (tCons (tVar i) tNil)) (pLenO i) := ⟨pe_callB cr_lenA hg hm PySem.boot_len (pa_cons (pe_var hN hv hd hcd) pa_nil (by rw [he]; rfl)) (by decide) (by decide) (by rw [he]; rfl) rfl, fun G F H σ ρ Q R S hT k => by
  unfold pLenO at hT
  split at hT
  · rename_i a xs e
    obtain ⟨h1, h2, h3, vs, h4, h5⟩ := S.own i a xs e
    exact ⟨.ref a, h1, .inl ⟨a, vs, rfl, .inl (SqL.of h4), by rw [h5.length]; exact k _ _ F H ρ (.refl _ _) S (.int _) hT⟩⟩
  · rename_i d e
    obtain ⟨v, h1, h2⟩ := S.val i d e
    refine ⟨v, h1, ?_⟩
    refine cp_len F H [v] [d] _ _ S.hF (.cons h2 .nil) hT fun w dw F2 H2 res q => ?_
    obtain ⟨u2, S2, r2⟩ := S.res res
    exact k w dw F2 H2 ρ u2 S2 r2 q
  · exact hT.elim⟩
def iabs (i : Int) : Int := if i < 0 then -i else i
def fAbs : FC := fun ds Q => match ds with | [.int i] => Q (.int (iabs i)) | _ => False
theorem cp_abs {K : PySem.W.Frag} : CallP K (fun xs H Q => ∃ i, xs = [.int i] ∧ Q (.int (if i < 0 then -i else i)) H) fAbs := fun F H xs ds Q R hs r hf k => by
  unfold fAbs at hf
  split at hf
  · rw [r.int1]
    exact ⟨_, rfl, k _ _ _ _ (.old (.int _)) hf⟩
  · exact hf.elim
def fMin2 : FC := fun ds Q => match ds with | [.int i, .int j] => Q (.int (min i j)) | _ => False
def fMax2 : FC := fun ds Q => match ds with | [.int i, .int j] => Q (.int (max i j)) | _ => False
theorem cp_min2 {K : PySem.W.Frag} : CallP K (fun xs H Q => ∃ i j, xs = [.int i, .int j] ∧ Q (.int (if j < i then j else i)) H) fMin2 := fun F H xs ds Q R hs r hf k => by
  unfold fMin2 at hf
  split at hf
  · rename_i i j
    rw [r.int2]
    refine ⟨i, j, rfl, ?_⟩
    rw [show (if j < i then j else i) = min i j by split <;> omega]
    exact k _ _ _ _ (.old (.int _)) hf
  · exact hf.elim
theorem cp_max2 {K : PySem.W.Frag} : CallP K (fun xs H Q => ∃ i j, xs = [.int i, .int j] ∧ Q (.int (if j > i then j else i)) H) fMax2 := fun F H xs ds Q R hs r hf k => by
  unfold fMax2 at hf
  split at hf
  · rename_i i j
    rw [r.int2]
    refine ⟨i, j, rfl, ?_⟩
    rw [show (if j > i then j else i) = max i j by split <;> omega]
    exact k _ _ _ _ (.old (.int _)) hf
  · exact hf.elim
def bestDD (g : Int → Int → Int) (d : D) : List Int → D
  | [] => d
  | n :: ns => .int (ns.foldl g n)
def pDflt (g : Int → Int → Int) (Te Td : TEp) : TEp := fun ρ Q => Te ρ fun x ρ1 => Td ρ1 fun d ρ2 => match x with
  | .lst xs => ∃ ns, xs = ns.map D.int ∧ Q (bestDD g d ns) ρ2
  | _ => False
theorem snd_dflt {K : PySem.W.Frag} {g : Int → Int → Int} (ha : SndE K ta Ta) (hb : SndE K tb Tb) : SndE K (tDflt K g ta tb) (pDflt g Ta Tb) := fun G F H σ ρ Q R S hT k =>
  ha G F H σ ρ _ _ S hT fun v d F1 H1 ρ1 u1 S1 r1 q1 => hb G F1 H1 σ ρ1 _ _ S1 q1 fun w e F2 H2 ρ2 u2 S2 r2 q2 => by
    cases r1 with
    | lst h r =>
      obtain ⟨ns, rfl, q⟩ := q2
      have := r.ints
      subst this
      refine ⟨_, ns, rfl, SqL.of (S2.hF _ _ (u2.ex _ _ h)), k _ (bestDD g e ns) F2 H2 ρ2 (u1.trans u2) S2 ?_ q⟩
      cases ns with
      | nil => exact r2
      | cons n ns => exact .int _
    | _ => exact q2.elim
theorem ppe_maxD {p kp : Pos} (hg : Gl X "max") (hm : X.mg "max" = none) (hc : X.calm = true) (hu : X.A.units + 64 < cLine) (he : PPE X a ta Ta) (hd : PPE X b tb Tb) (hs : starEach [a] X.env = [(false, eval a X.env)] := by rfl) : PPE X (.Call (.Name "max" p) [a] [⟨some "default", b, kp⟩] pos) (tDflt X.K max ta tb) (pDflt max Ta Tb) := ⟨pe_maxDflt hg hm hc hu he.pe hd.pe hs, snd_dflt he.snd hd.snd⟩
theorem ppe_minD {p kp : Pos} (hg : Gl X "min") (hm : X.mg "min" = none) (hc : X.calm = true) (hu : X.A.units + 64 < cLine) (he : PPE X a ta Ta) (hd : PPE X b tb Tb) (hs : starEach [a] X.env = [(false, eval a X.env)] := by rfl) : PPE X (.Call (.Name "min" p) [a] [⟨some "default", b, kp⟩] pos) (tDflt X.K min ta tb) (pDflt min Ta Tb) := ⟨pe_minDflt hg hm hc hu he.pe hd.pe hs, snd_dflt he.snd hd.snd⟩
def fInt1 : FC := fun ds Q => match ds with
  | [.int i] => Q (.int i)
  | [.bl b] => Q (.int (if b = true then 1 else 0))
  | _ => False
theorem cp_int1 {K : PySem.W.Frag} : CallP K (fun xs H Q => (∃ i, xs = [.int i] ∧ Q (.int i) H) ∨ ∃ k, xs = [.bl k] ∧ Q (.int (if k then 1 else 0)) H) fInt1 := fun F H xs ds Q R hs r hf k => by
  unfold fInt1 at hf
  split at hf
  · rw [r.int1]; exact .inl ⟨_, rfl, k _ _ _ _ (.old (.int _)) hf⟩
  · obtain ⟨v, rfl, q1⟩ := r.inv1
    have := q1.blInv
    subst this
    exact .inr ⟨_, rfl, k _ _ _ _ (.old (.int _)) hf⟩
  · exact hf.elim
def fAll : FC := fun ds Q => match ds with | [.lst xs] => ∃ bs : List Bool, xs = bs.map D.bl ∧ Q (.bl (bs.all id)) | _ => False
theorem cp_all {K : PySem.W.Frag} : CallP K (rAll K) fAll := fun F H xs ds Q R hs r hf k => by
  unfold fAll at hf
  split at hf
  · obtain ⟨v, rfl, q1⟩ := r.inv1
    obtain ⟨a, vs, rfl, e, q2⟩ := q1.lstInv
    obtain ⟨bs, rfl, q⟩ := hf
    have := q2.bls
    subst this
    exact ⟨a, bs, rfl, SqL.of (hs _ _ e), k _ _ _ _ (.old (.bl _)) q⟩
  · exact hf.elim
def fTup : FC := fun ds Q => match ds with
  | [.lst xs] => Q (.tup xs)
  | [.tup xs] => Q (.tup xs)
  | _ => False
theorem cp_tup {K : PySem.W.Frag} : CallP K (fun xs H Q => ∃ p ys, xs = [.ref p] ∧ ((SqL K H p ys ∧ ∀ l, H l = none → Q (.ref l) (upd H l (.tup ys))) ∨ (SqT K H p ys ∧ Q (.ref p) H))) fTup := fun F H xs ds Q R hs r hf k => by
  unfold fTup at hf
  split at hf
  · obtain ⟨v, rfl, q1⟩ := r.inv1
    obtain ⟨a, vs, rfl, e, q2⟩ := q1.lstInv
    exact ⟨a, vs, rfl, .inl ⟨SqL.of (hs _ _ e), fun l hl => k _ _ _ _ (.new hl (.tup upd_same (q2.mono (same_new (hs.free hl))))) hf⟩⟩
  · obtain ⟨v, rfl, q1⟩ := r.inv1
    obtain ⟨a, vs, rfl, e, q2⟩ := q1.tupInv
    exact ⟨a, vs, rfl, .inr ⟨SqT.of (hs _ _ e), k _ _ _ _ (.old (.tup e q2)) hf⟩⟩
  · exact hf.elim
def fLst : FC := fun ds Q => match ds with
  | [.lst xs] => Q (.lst xs)
  | [.tup xs] => Q (.lst xs)
  | [.scr ns] => Q (.lst (ns.map D.int))
  | _ => False
def rLstA (K : PySem.W.Frag) : List V → Hp → VK → Prop := fun xs H Q => ∃ p ys, xs = [.ref p] ∧ (SqL K H p ys ∨ SqT K H p ys) ∧ ∀ l, H l = none → Q (.ref l) (upd H l (.lst ys))
theorem cp_lst {K : PySem.W.Frag} : CallP K (rLstA K) fLst := fun F H xs ds Q R hs r hf k => by
  unfold fLst at hf
  split at hf
  · obtain ⟨v, rfl, q1⟩ := r.inv1
    obtain ⟨a, vs, rfl, e, q2⟩ := q1.lstInv
    exact ⟨a, vs, rfl, .inl (SqL.of (hs _ _ e)), fun l hl => k _ _ _ _ (.new hl (.lst upd_same (q2.mono (same_new (hs.free hl))))) hf⟩
  · obtain ⟨v, rfl, q1⟩ := r.inv1
    obtain ⟨a, vs, rfl, e, q2⟩ := q1.tupInv
    exact ⟨a, vs, rfl, .inr (SqT.of (hs _ _ e)), fun l hl => k _ _ _ _ (.new hl (.lst upd_same (q2.mono (same_new (hs.free hl))))) hf⟩
  · obtain ⟨v, rfl, q1⟩ := r.inv1
    obtain ⟨a, rfl, e⟩ := q1.scrInv
    exact ⟨a, _, rfl, .inl (hs.seq e), fun l hl => k _ _ _ _ (.new hl (.lst upd_same (Reps.ofInts _))) hf⟩
  · exact hf.elim
def pLstCO (T : TAp) : TCp := fun ρ Q => T ρ fun ds ρ1 => match ds with
  | [.lst xs] => ∀ a, Q (.own a xs) ρ1
  | [.tup xs] => ∀ a, Q (.own a xs) ρ1
  | _ => False
theorem ppc_list {e : Expr} {t : TA} {T : TAp} {p : Pos} (hg : Gl X "list") (hm : X.mg "list" = none) (ha : PPA X [e] t T)
    (he : starEach [e] X.env = (false, eval e X.env) :: starEach [] X.env := by rfl) : PPC X (.Call (.Name "list" p) [e] [] pos) (tCB (rLstA X.K) t) (pLstCO T) := ⟨pe_callTy call_list_of hg hm (by decide +kernel) ha.pa (by decide) (by decide) he rfl, fun G F H σ ρ Q R S hT k =>
  ha.snd G F H σ ρ _ _ S hT fun vs ds F1 H1 ρ1 u1 S1 r1 h1 => by
    match ds, r1, h1 with
    | [.lst xs], r1, h1 =>
      obtain ⟨v, rfl, q1⟩ := r1.inv1
      obtain ⟨a, ws, rfl, e, q2⟩ := q1.lstInv
      exact ⟨a, ws, rfl, .inl (SqL.of (S1.hF _ _ e)), fun l hl => k _ _ _ _ ρ1 u1 (S1.newOwn hl q2) (h1 l)⟩
    | [.tup xs], r1, h1 =>
      obtain ⟨v, rfl, q1⟩ := r1.inv1
      obtain ⟨a, ws, rfl, e, q2⟩ := q1.tupInv
      exact ⟨a, ws, rfl, .inr (SqT.of (S1.hF _ _ e)), fun l hl => k _ _ _ _ ρ1 u1 (S1.newOwn hl q2) (h1 l)⟩⟩
end
section
variable {X : Cx} {e : Expr} {te : TE} {Te : TEp} {pos : Pos}
def pAppend (i : Nat) (Te : TEp) : TSp := fun P ρ => match ρ[i]? with
  | some (some (.own a _)) => Te ρ fun y ρ1 => ∃ xs1, ρ1[i]? = some (some (.own a xs1)) ∧ xs1.length < sizeLine ∧ P.nx (ρ1.set i (some (.own a (xs1 ++ [y]))))
  | _ => False
theorem pps_append (i : Nat) {x : Str} {p ap cp : Pos} (he : PPE X e te Te) (hN : X.N[i]? = some x := by rfl) (hv : Vis X.env.scope x := by first | exact Or.inl rfl | exact Or.inr (Or.inl rfl) | exact Or.inr (Or.inr rfl)) (hd : (x == ("__debug__" : Str)) = false := by decide)
    (hcd : (x == ("__classdict__" : Str)) = false := by decide)
    (hbase : attributeBase (.Name x p) "append" X.env (eval (.Name x p) X.env) = eval (.Name x p) X.env := by rfl)
    (hfew : ((backTo cp (starEach [e] X.env)).all (fun x => !x.1) && (backToKw cp (keywordEach [] X.env)).all (fun x => x.1.isSome)
      && decide ([e].length + ([] : List Keyword).length + (if ([] : List Keyword).isEmpty then 0 else 1) < 30)) = true := by rfl)
    (hline : (ap.endLine == cp.line) = true := by rfl) (hs : starEach [e] X.env = (false, eval e X.env) :: starEach [] X.env := by rfl)
    (hsw : swapsWith (.Call (.Attribute (.Name x p) "append" ap) [e] [] cp) none pos.line X.env = pure false := by rfl) :
    PPS X (.Expr (.Call (.Attribute (.Name x p) "append" ap) [e] [] cp) pos) (tDrop (tBM X.K "list" rAppend (tVar i) (tCons te tNil))) (pAppend i Te) := ⟨ps_expr (pe_bm PySem.F.plainAttrs_list PySem.F.slot_list_append PySem.F.type_list_append mt_append (pe_var hN hv hd hcd) (pa_cons he.pe pa_nil hs) hbase hfew hline hs rfl) hsw, fun G F H σ ρ P D S hT r => by
  unfold pAppend at hT
  split at hT
  · rename_i a xs e0
    obtain ⟨h1, h2, h3, vs, h4, h5⟩ := S.own i a xs e0
    refine ⟨.ref a, h1, .inl ⟨rfl, _, SqL.of h4⟩, he.snd G F H σ ρ _ _ S hT fun y dy F1 H1 ρ1 u1 S1 r1 q1 => ?_⟩
    obtain ⟨xs1, e1, hz, q⟩ := q1
    obtain ⟨g1, g2, g3, ws, g4, g5⟩ := S1.own i a xs1 e1
    exact ⟨a, ws, y, rfl, rfl, g4, by rw [g5.length]; exact hz, r.nx F1 _ _ _ u1 (S1.mut e1 (g5.append (.one r1))) q⟩
  · exact hT.elim⟩
def pStore (i : Nat) (Ti Te : TEp) : TSp := fun P ρ => Te ρ fun y ρ1 => match ρ1[i]? with
  | some (some (.own a _)) => Ti ρ1 fun k ρ2 => ∃ xs1 n j, ρ2[i]? = some (some (.own a xs1)) ∧ k = .int n ∧ ixN xs1.length n = some j ∧ P.nx (ρ2.set i (some (.own a (xs1.set j y))))
  | _ => False
theorem pps_store (i : Nat) {x : Str} {p sp : Pos} {ix : Expr} {ti : TE} {Ti : TEp} (hi : PPE X ix ti Ti) (he : PPE X e te Te) (hN : X.N[i]? = some x := by rfl) (hv : Vis X.env.scope x := by first | exact Or.inl rfl | exact Or.inr (Or.inl rfl) | exact Or.inr (Or.inr rfl)) (hd : (x == ("__debug__" : Str)) = false := by decide)
    (hcd : (x == ("__classdict__" : Str)) = false := by decide)
    (ha : ∀ v, assign (.Subscript (.Name x p) ix sp) X.env v = (do
      let ov ← holding [v] (eval (.Name x p) X.env)
      let iv ← holding [v, ov] (eval ix X.env)
      standAt sp
      holding [v, ov, iv] (setItem ov iv v)
      release [v, ov, iv] []) := by intro _; rfl)
    (hs : swapsWithSole [.Subscript (.Name x p) ix sp] e pos.line X.env = pure false := by rfl) (hw : swappedStores [.Subscript (.Name x p) ix sp] e X.env = pure none := by rfl)
    (h1 : (assignEach [.Subscript (.Name x p) ix sp] X.env).map (·.2) = [assign (.Subscript (.Name x p) ix sp) X.env] := by rfl) :
    PPS X (.Assign [.Subscript (.Name x p) ix sp] e pos) (tAsg te (gSub (tVar i) ti rSetL)) (pStore i Ti Te) := ⟨ps_asg he.pe (pg_sub (pe_var hN hv hd hcd) hi.pe set_list ha) hs hw h1, fun G F H σ ρ P D S hT r =>
  he.snd G F H σ ρ _ _ S hT fun y dy F1 H1 ρ1 u1 S1 r1 q1 => by
    have q1' : (match ρ1[i]? with
      | some (some (.own a _)) => Ti ρ1 fun k ρ2 => ∃ xs1 n j, ρ2[i]? = some (some (.own a xs1)) ∧ k = .int n ∧ ixN xs1.length n = some j ∧ P.nx (ρ2.set i (some (.own a (xs1.set j dy))))
      | _ => False) := q1
    split at q1'
    · rename_i a xs e0
      obtain ⟨h1, h2, h3, vs, h4, h5⟩ := S1.own i a xs e0
      refine ⟨.ref a, h1, hi.snd G F1 H1 σ ρ1 _ _ S1 q1' fun w dw F2 H2 ρ2 u2 S2 r2 q2 => ?_⟩
      obtain ⟨xs1, n, j, e1, rfl, ej, q⟩ := q2
      obtain ⟨g1, g2, g3, ws, g4, g5⟩ := S2.own i a xs1 e1
      have := r2.intInv
      subst this
      exact ⟨a, ws, n, j, rfl, rfl, g4, by rw [g5.length]; exact ej, r.nx F2 _ _ _ (u1.trans u2) (S2.mut e1 (g5.set (r1.mono u2.ex) j)) q⟩
    · exact q1'.elim⟩
end
end Pl
namespace Pl
open PySem PySem.Spec PyProof.Rows L2
abbrev FA := List D → (Cell → Prop) → Prop
abbrev FB := List D → List D → (Cell → List D → Prop) → Prop
def hide (H : Hp) (a : Addr) : Hp := fun b => if b = a then none else H b
theorem hide_same (H : Hp) (a : Addr) : Same (hide H a) H := fun b o e => by
  unfold hide at e
  by_cases h : b = a
  · rw [if_pos h] at e; cases e
  · rw [if_neg h] at e; exact e
theorem hide_ne {H : Hp} {a b : Addr} (h : b ≠ a) : hide H a b = H b := by unfold hide; rw [if_neg h]
theorem hide_at {H : Hp} {a : Addr} : hide H a a = none := by unfold hide; rw [if_pos rfl]
def spA (K : PySem.W.Frag) (n : Nat) (f : FA) : Sp := fun vs H Q _ => ∃ (F : Hp) (ds : List D) (C : Cell → Prop), vs.length = n ∧ Same F H ∧ Reps K F vs ds ∧ f ds C ∧
  ∀ v c F' H', Up H F F' → SimR K H F' H' [some v] [some c] → C c → Q v H'
def spB (K : PySem.W.Frag) (n : Nat) (f : FB) : Sp := fun vs H Q _ => ∃ (F : Hp) (a : Addr) (us : List V) (xs : List D) (ws : List V) (ds : List D) (C : Cell → List D → Prop), vs = .ref a :: ws ∧ vs.length = n ∧ Same F H ∧ F a = none ∧ H a = some (.lst us) ∧ Reps K F us xs ∧ Reps K F ws ds ∧ f xs ds C ∧
  ∀ v c xs' F' H', Up (hide H a) F F' → SimR K (hide H a) F' H' [some (.ref a), some v] [some (.own a xs'), some c] → C c xs' → Q v H'
theorem get_one {α : Type} {x y : α} {i : Nat} (h : [x][i]? = some y) : i = 0 ∧ x = y := by
  cases i with
  | zero => exact ⟨rfl, Option.some.inj h⟩
  | succ i => simp at h
section
variable [TJ]
theorem Sim.only {K : PySem.W.Frag} {G F H : Hp} {σ : L2.St} {ρ : Ro} {v : V} {c : Cell} (S : Sim K G F H (σ ++ [some v]) (ρ ++ [some c])) : SimR K G F H [some v] [some c] := by
  refine ⟨S.hF, S.hG.same, rfl, fun i d h => ?_, fun i a xs h => ?_, fun i j a xs ys h1 h2 => ?_, fun i s h => ?_, fun i j s t p h1 h2 _ _ => (get_one h1).1.trans (get_one h2).1.symm, fun j a xs h ⟨i, s, e, _⟩ => ?_⟩
  · obtain ⟨rfl, e⟩ := get_one h
    cases e
    exact ⟨v, rfl, S.lastVal⟩
  · obtain ⟨rfl, e⟩ := get_one h
    cases e
    obtain ⟨rfl, h2, h3, h4, h5⟩ := S.lastOwn
    exact ⟨rfl, h2, h3, h5⟩
  · rw [(get_one h1).1, (get_one h2).1]
  · obtain ⟨rfl, e⟩ := get_one h
    cases e
    obtain ⟨rfl, h2, h3, h4⟩ := S.lastBox
    exact ⟨rfl, h2, h3⟩
  · have h1 := (get_one h).2
    have h2 := (get_one e).2
    rw [h1] at h2
    cases h2
theorem Sim.only2 {K : PySem.W.Frag} {G F H : Hp} {σ : L2.St} {ρ : Ro} {v : V} {c : Cell} {a : Addr} {xs : List D} {i : Nat} (S : Sim K G F H (σ ++ [some v]) (ρ ++ [some c])) (e : ρ[i]? = some (some (.own a xs))) : SimR K G F H [some (.ref a), some v] [some (.own a xs), some c] := by
  obtain ⟨h1, h2, h3, vs, h4, h5⟩ := S.drop.own i a xs e
  have hn : ∀ (b : Addr) (ys : List D), c = .own b ys → b ≠ a := fun b ys z w => by
    subst z w
    exact S.lastOwn.2.2.2.1.1 i xs e
  refine ⟨S.hF, S.hG.same, rfl, fun i d h => ?_, fun i b ys h => ?_, fun i j b ys zs q1 q2 => ?_, fun i s h => ?_, fun i j s t p q1 q2 _ _ => ?_, fun j b ys q ⟨k, s, e2, m⟩ => ?_⟩
  · match i, h with
    | 1, h => have e' : c = .val d := Option.some.inj (Option.some.inj h); subst e'; exact ⟨v, rfl, S.lastVal⟩
  · match i, h with
    | 0, h => cases h; exact ⟨rfl, h2, h3, vs, h4, h5⟩
    | 1, h =>
      have e' : c = .own b ys := Option.some.inj (Option.some.inj h)
      subst e'
      obtain ⟨rfl, g2, g3, g4, g5⟩ := S.lastOwn
      exact ⟨rfl, g2, g3, g5⟩
  · match i, j, q1, q2 with
    | 0, 0, _, _ => rfl
    | 1, 1, _, _ => rfl
    | 0, 1, q1, q2 => cases q1; exact absurd rfl (hn _ zs (Option.some.inj (Option.some.inj q2)))
    | 1, 0, q1, q2 => cases q2; exact absurd rfl (hn _ ys (Option.some.inj (Option.some.inj q1)))
  · match i, h with
    | 1, h =>
      have e' : c = .box s := Option.some.inj (Option.some.inj h)
      subst e'
      obtain ⟨rfl, g2, g3, g4⟩ := S.lastBox
      exact ⟨rfl, g2, g3⟩
  · match i, j, q1, q2 with
    | 1, 1, _, _ => rfl
  · match k, e2 with
    | 1, e2 =>
      have e' : c = .box s := Option.some.inj (Option.some.inj e2)
      subst e'
      obtain ⟨rfl, g2, g3, g4⟩ := S.lastBox
      match j, q with
      | 0, q => cases q; exact (g4 a m).1 _ xs e
      | 1, q => cases q
theorem Sim.afterA {K : PySem.W.Frag} {G F H F' H' : Hp} {σ : L2.St} {ρ : Ro} {v : V} {c : Cell} (S : Sim K G F H σ ρ) (u : Up H F F') (S' : SimR K H F' H' [some v] [some c]) : Sim K G F' H' (σ ++ [some v]) (ρ ++ [some c]) := by
  have base : Sim K G F' H' σ ρ := by
    refine ⟨S'.hF, S.hG.up S'.hG u.out, S.len, fun i d h => ?_, fun i a xs h => ?_, S.ne, S.bx.heap u.ex fun p m => let ⟨f, g, o, e⟩ := S.bx.free m; ⟨u.isNone f e, g, (S'.hG _ _ e).trans e.symm⟩⟩
    · obtain ⟨w, h1, h2⟩ := S.val i d h
      exact ⟨w, h1, h2.mono u.ex⟩
    · obtain ⟨h1, h2, h3, vs, h4, h5⟩ := S.own i a xs h
      exact ⟨h1, u.isNone h2 h4, h3, vs, S'.hG _ _ h4, h5.mono u.ex⟩
  cases c with
  | val d =>
    obtain ⟨w, h1, h2⟩ := S'.val 0 d rfl
    cases h1
    exact base.pushVal h2
  | own a xs =>
    obtain ⟨h1, h2, h3, vs, h4, h5⟩ := S'.own 0 a xs rfl
    cases h1
    exact base.pushOwn h4 h2 (S.hG.free h3) (S.notOwn h3) h5
  | box s =>
    obtain ⟨h1, h2, h3⟩ := S'.bx.box 0 s rfl
    cases h1
    exact base.pushBox (fun p m => ⟨(h2 p m).1, S.hG.free (h2 p m).2⟩) h3 fun p m => S.notOwn (h2 p m).2
theorem Sim.afterB {K : PySem.W.Frag} {G F H F' H' : Hp} {σ : L2.St} {ρ : Ro} {v : V} {c : Cell} {i : Nat} {a : Addr} {xs xs' : List D} (S : Sim K G F H σ ρ) (e : ρ[i]? = some (some (.own a xs))) (u : Up (hide H a) F F') (S' : SimR K (hide H a) F' H' [some (.ref a), some v] [some (.own a xs'), some c]) : Sim K G F' H' (σ ++ [some v]) (ρ.set i (some (.own a xs')) ++ [some c]) := by
  obtain ⟨h1, h2, h3, vs, h4, h5⟩ := S.own i a xs e
  have hi := lt_of_get e
  obtain ⟨_, g2, g3, ws, g4, g5⟩ := S'.own 0 a xs' rfl
  have other : ∀ (j : Nat) (b : Addr) (ys : List D), ρ[j]? = some (some (.own b ys)) → j ≠ i → b ≠ a := fun j b ys q hj z => by
    subst z; exact hj (S.ne _ _ _ _ _ q e)
  have far : ∀ (j : Nat) (x : Cell), (ρ.set i (some (.own a xs')))[j]? = some (some x) → (j = i ∧ x = .own a xs') ∨ (j ≠ i ∧ ρ[j]? = some (some x)) := fun j x q => by
    by_cases hj : i = j
    · subst hj; rw [List.getElem?_set_self hi] at q; cases q; exact .inl ⟨rfl, rfl⟩
    · rw [List.getElem?_set_ne hj] at q; exact .inr ⟨fun z => hj z.symm, q⟩
  have base : Sim K G F' H' σ (ρ.set i (some (.own a xs'))) := by
    refine ⟨S'.hF, ⟨fun b o q => ?_, TJ.step S.hG.tj (fun b o q ne => ?_) fun b o q => ?_⟩, by simpa using S.len, fun j d h => ?_, fun j b ys h => ?_, fun j k b ys zs q1 q2 => ?_, S.bx.to u.ex (fun p m => ?_) (fun j s q => ⟨(set_box (by simp) q).1, rfl⟩) fun j b ys q => (set_own q).elim (fun z => by cases z; exact .inl ⟨i, xs, e⟩) fun q => .inl ⟨j, ys, q⟩⟩
    · have n : b ≠ a := fun z => by subst z; rw [h3] at q; cases q
      exact S'.hG b o (by rw [hide_ne n]; exact S.hG b o q)
    · have n : b ≠ a := fun z => by subst z; rw [h4] at q; exact ne ((Option.some.inj q) ▸ trivial)
      exact S'.hG b o (by rw [hide_ne n]; exact q)
    · rcases u.out b o q with z | z
      · exact .inl z
      · by_cases n : b = a
        · subst n; exact .inr (.inr ⟨_, h4, trivial⟩)
        · rw [hide_ne n] at z; exact .inr (.inl z)
    · rcases far j _ h with ⟨_, z⟩ | ⟨_, h⟩
      · cases z
      · obtain ⟨w, k1, k2⟩ := S.val j d h
        exact ⟨w, k1, k2.mono u.ex⟩
    · rcases far j _ h with ⟨rfl, z⟩ | ⟨hj, h⟩
      · cases z; exact ⟨h1, g2, h3, ws, g4, g5⟩
      · obtain ⟨k1, k2, k3, us, k4, k5⟩ := S.own j b ys h
        have n := other j b ys h hj
        have k4' : hide H a b = some (.lst us) := by rw [hide_ne n]; exact k4
        exact ⟨k1, u.isNone k2 k4', k3, us, S'.hG _ _ k4', k5.mono u.ex⟩
    · rcases far j _ q1 with ⟨f1, z1⟩ | ⟨hj, p1⟩
      · rcases far k _ q2 with ⟨f2, _⟩ | ⟨hk, p2⟩
        · rw [f1, f2]
        · cases z1; exact absurd rfl (other k _ zs p2 hk)
      · rcases far k _ q2 with ⟨f2, z2⟩ | ⟨hk, p2⟩
        · cases z2; exact absurd rfl (other j _ ys p1 hj)
        · exact S.ne _ _ _ _ _ p1 p2
    · obtain ⟨f, g, o, e'⟩ := S.bx.free m
      have e2 : hide H a p = some o := by rw [hide_ne (S.bx.apart m e)]; exact e'
      exact ⟨u.isNone f e2, g, (S'.hG _ _ e2).trans e'.symm⟩
  cases c with
  | val d =>
    obtain ⟨w, k1, k2⟩ := S'.val 1 d rfl
    cases k1
    exact base.pushVal k2
  | own b ys =>
    obtain ⟨k1, k2, k3, us, k4, k5⟩ := S'.own 1 b ys rfl
    cases k1
    have n : b ≠ a := fun z => by subst z; exact absurd (S'.ne 0 1 b xs' ys rfl rfl) (by decide)
    have hb : H b = none := (hide_ne (H := H) n).symm.trans k3
    refine base.pushOwn k4 k2 (S.hG.free hb) ⟨fun j zs q => ?_, fun m => (S.notOwn hb).2 (set_inbox (by simp) m)⟩ k5
    rcases far j _ q with ⟨_, z⟩ | ⟨_, q⟩
    · cases z; exact n rfl
    · obtain ⟨_, _, _, vs', h4', _⟩ := S.own j b zs q
      rw [hb] at h4'; cases h4'
  | box s =>
    obtain ⟨k1, k2, k3⟩ := S'.bx.box 1 s rfl
    cases k1
    have hb : ∀ p ∈ s.foot, H p = none := fun p m => by
      have n : p ≠ a := fun z => by subst z; exact S'.bx.bo 0 p xs' rfl ⟨1, s, rfl, m⟩
      exact (hide_ne (H := H) n).symm.trans (k2 p m).2
    refine base.pushBox (fun p m => ⟨(k2 p m).1, S.hG.free (hb p m)⟩) k3 fun p m => ⟨fun j zs q => ?_, fun z => (S.notOwn (hb p m)).2 (set_inbox (by simp) z)⟩
    rcases far j _ q with ⟨_, z⟩ | ⟨_, q⟩
    · cases z; rw [hb _ m] at h4; cases h4
    · exact (S.notOwn (hb p m)).1 j zs q
end
section
variable [TJ] {X : Cx} {k : Nat} {f : Addr} {fd : FuncData} {ps : List Str} {x : Str} {p pos : Pos} {e : Expr} {es : List Expr} {t : TA} {T : TAp} {n : Nat}
def pCallA (n : Nat) (g : FA) (T : TAp) : TCp := fun ρ Q => T ρ fun ds ρ1 => ds.length = n ∧ g ds fun c => Q c ρ1
theorem ppc_callA {g : FA} (Fn : FnOk X.prog X.w X.K X.mg X.base CX0 k f fd ps (spA X.K n g)) (hr : Room k X.A) (hg : Gl X x) (hm : X.mg x = some (.ref f)) (hk : PySem.W.keepIn X.K (.ref f) = true) (hb : Binds X.K fd ps []) (ha : PPA X (e :: es) t T)
    (hdb : (x == ("__debug__" : Str)) = false := by decide) (he : starEach (e :: es) X.env = (false, eval e X.env) :: starEach es X.env := by rfl) (hpl : (backTo pos (starEach es X.env)).any (·.1) = false := by rfl) :
    PPC X (.Call (.Name x p) (e :: es) [] pos) (tCall (spA X.K n g) [] (fun _ _ _ => False) t) (pCallA n g T) := ⟨pe_call Fn hr hg hm hk hb .nil pass0 ha.pa hdb he hpl, fun G F H σ ρ Q R S hT k =>
  ha.snd G F H σ ρ _ _ S hT fun vs ds F1 H1 ρ1 u1 S1 r1 h1 => by
    show spA X.K n g (vs ++ []) H1 R _
    rw [List.append_nil]
    exact ⟨F1, ds, _, by rw [r1.length]; exact h1.1, S1.hF, r1, h1.2, fun v c F' H' u S' q => k v c F' H' ρ1 (u1.trans (u.less S1.hG)) (S1.afterA u S') q⟩⟩
def pCallB (i n : Nat) (g : FB) (T : TAp) : TCp := fun ρ Q => match ρ[i]? with
  | some (some (.own a _)) => T ρ fun ds ρ1 => ∃ xs1, ρ1[i]? = some (some (.own a xs1)) ∧ ds.length + 1 = n ∧ g xs1 ds fun c xs2 => Q c (ρ1.set i (some (.own a xs2)))
  | _ => False
theorem ppc_callB (i : Nat) {y : Str} {py : Pos} {g : FB} (Fn : FnOk X.prog X.w X.K X.mg X.base CX0 k f fd ps (spB X.K n g)) (hr : Room k X.A) (hg : Gl X x) (hm : X.mg x = some (.ref f)) (hk : PySem.W.keepIn X.K (.ref f) = true) (hb : Binds X.K fd ps []) (ha : PPA X es t T)
    (hN : X.N[i]? = some y := by rfl) (hv : Vis X.env.scope y := by first | exact Or.inl rfl | exact Or.inr (Or.inl rfl) | exact Or.inr (Or.inr rfl)) (hd : (y == ("__debug__" : Str)) = false := by decide) (hcd : (y == ("__classdict__" : Str)) = false := by decide)
    (hdb : (x == ("__debug__" : Str)) = false := by decide) (he : starEach (.Name y py :: es) X.env = (false, eval (.Name y py) X.env) :: starEach es X.env := by rfl) (hpl : (backTo pos (starEach es X.env)).any (·.1) = false := by rfl) :
    PPC X (.Call (.Name x p) (.Name y py :: es) [] pos) (tCall (spB X.K n g) [] (fun _ _ _ => False) (tCons (tVar i) t)) (pCallB i n g T) := ⟨pe_call Fn hr hg hm hk hb .nil pass0 (pa_cons (pe_var hN hv hd hcd) ha.pa he) hdb he hpl, fun G F H σ ρ Q R S hT k => by
  unfold pCallB at hT
  split at hT
  · rename_i a xs e0
    refine ⟨.ref a, (S.own i a xs e0).1, ha.snd G F H σ ρ _ _ S hT fun vs ds F1 H1 ρ1 u1 S1 r1 h1 => ?_⟩
    obtain ⟨xs1, e1, hn, q1⟩ := h1
    obtain ⟨h1, h2, h3, us, h4, h5⟩ := S1.own i a xs1 e1
    show spB X.K n g ((.ref a :: vs) ++ []) H1 R _
    rw [List.append_nil]
    refine ⟨F1, a, us, xs1, vs, ds, _, rfl, by rw [List.length_cons, r1.length]; exact hn, S1.hF, h2, h4, h5, r1, q1, fun v c xs' F' H' u S' q => ?_⟩
    have hGh : Same G (hide H1 a) := fun b o qq => by
      have nb : b ≠ a := fun z => by rw [z, h3] at qq; cases qq
      rw [hide_ne nb]; exact S1.hG b o qq
    exact k v c F' H' _ (u1.trans (u.less hGh)) (S1.afterB e1 u S') q
  · exact hT.elim⟩
end
section
variable {P : Program} {w : World} {K : PySem.W.Frag} {mg : Str → Option Value} {base : Heap} {x qual : Str} {st : Stmt} {f : Addr} {fd : FuncData} {N ps : List Str} {k : Nat}
def startA (N : List Str) (ds : List D) : Ro := ds.map (fun d => some (.val d)) ++ List.replicate (N.length - ds.length) none
def startB (N : List Str) (a : Addr) (xs : List D) (ds : List D) : Ro := some (.own a xs) :: (ds.map (fun d => some (.val d)) ++ List.replicate (N.length - (ds.length + 1)) none)
theorem sim_vals [TJ] {K : PySem.W.Frag} {G F H : Hp} (hF : Same F H) (hG : SameJ G F H) {vs : List V} {ds : List D} (r : Reps K F vs ds) (m : Nat) : Sim K G F H (vs.map some ++ List.replicate m none) (ds.map (fun d => some (.val d)) ++ List.replicate m none) := by
  have key : ∀ (i : Nat) (c : Cell), (ds.map (fun d => some (Cell.val d)) ++ List.replicate m none)[i]? = some (some c) → ∃ d, c = .val d ∧ ds[i]? = some d := fun i c h => by
    rcases Nat.lt_or_ge i ds.length with q | q
    · rw [List.getElem?_append_left (by simpa using q), List.getElem?_map, List.getElem?_eq_getElem q] at h
      exact ⟨ds[i], (Option.some.inj (Option.some.inj h)).symm, List.getElem?_eq_getElem q⟩
    · rw [List.getElem?_append_right (by simpa using q), List.getElem?_replicate] at h
      split at h <;> cases h
  refine ⟨hF, hG, by simp [r.length], fun i d h => ?_, fun i a xs h => ?_, fun i j a xs ys h1 h2 => ?_, .nil fun i s h => by obtain ⟨d, e, _⟩ := key i _ h; cases e⟩
  · obtain ⟨d', e, hd⟩ := key i _ h
    cases e
    obtain ⟨v, hv, rv⟩ := r.get hd
    refine ⟨v, ?_, rv⟩
    have q : i < vs.length := lt_of_get hv
    rw [List.getElem?_append_left (by simpa using q), List.getElem?_map, hv]
    rfl
  · obtain ⟨d', e, _⟩ := key i _ h
    cases e
  · obtain ⟨d', e, _⟩ := key i _ h1
    cases e
theorem Sim.cons_own [TJ] {K : PySem.W.Frag} {G F H : Hp} {σ : L2.St} {ρ : Ro} (S : Sim K G F H σ ρ) {a : Addr} {vs : List V} {xs : List D} (hH : H a = some (.lst vs)) (hF : F a = none) (hG : G a = none) (hn : NotOwn ρ a) (r : Reps K F vs xs) :
    Sim K G F H (some (.ref a) :: σ) (some (.own a xs) :: ρ) := by
  refine ⟨S.hF, S.hG, by simp [S.len], fun i d h => ?_, fun i b ys h => ?_, fun i j b ys zs h1 h2 => ?_, fun i s h => ?_, fun i j s t p h1 h2 m1 m2 => ?_, fun j b ys h ⟨k, s, e, m⟩ => ?_⟩
  · cases i with
    | zero => cases h
    | succ i => exact S.val i d h
  · cases i with
    | zero => cases h; exact ⟨rfl, hF, hG, vs, hH, r⟩
    | succ i => exact S.own i b ys h
  · cases i with
    | zero =>
      cases j with
      | zero => rfl
      | succ j => cases h1; exact absurd h2 (hn.1 j zs)
    | succ i =>
      cases j with
      | zero => cases h2; exact absurd h1 (hn.1 i ys)
      | succ j => rw [S.ne i j b ys zs h1 h2]
  · cases i with
    | zero => cases h
    | succ i => exact S.bx.box i s h
  · cases i with
    | zero => cases h1
    | succ i =>
      cases j with
      | zero => cases h2
      | succ j => rw [S.bx.bb i j s t p h1 h2 m1 m2]
  · cases k with
    | zero => cases e
    | succ k =>
      cases j with
      | zero => cases h; exact hn.2 ⟨k, s, e, m⟩
      | succ j => exact S.bx.bo j b ys h ⟨k, s, e, m⟩
theorem vals_box {ds : List D} {m i : Nat} {s : Sh} : (ds.map (fun d => some (Cell.val d)) ++ List.replicate m none)[i]? ≠ some (some (.box s)) := fun h => by
  rcases Nat.lt_or_ge i ds.length with q | q
  · rw [List.getElem?_append_left (by simpa using q), List.getElem?_map, List.getElem?_eq_getElem q] at h
    cases h
  · rw [List.getElem?_append_right (by simpa using q), List.getElem?_replicate] at h
    split at h <;> cases h
theorem notOwn_vals {ds : List D} {m : Nat} {a : Addr} : NotOwn (ds.map (fun d => some (Cell.val d)) ++ List.replicate m none) a := ⟨fun i xs h => (by
  rcases Nat.lt_or_ge i ds.length with q | q
  · rw [List.getElem?_append_left (by simpa using q), List.getElem?_map, List.getElem?_eq_getElem q] at h
    cases h
  · rw [List.getElem?_append_right (by simpa using q), List.getElem?_replicate] at h
    split at h <;> cases h), fun ⟨i, s, e, _⟩ => vals_box e⟩
theorem okA {g : FA} {T : TSp} (Fn : Fun K x qual st f fd) (S : FnScope N ps (defScope st))
    (hb : ∀ (cdv : Value) (A : Around) (outer : List Env) (s : Shared) (H : Hp) (E : XK), Room k (A.deeper (envOfC qual (defScope st) s.heap.objs.size f cdv)) → ∃ t, PPSs (cxOf CX0 P w K mg base N qual (defScope st) f cdv A outer s H E).nox (defBody st) t T)
    (hT : ∀ ds C, ds.length = ps.length → g ds C → T { nx := fun _ => C (.val .non), rt := fun c _ => C c } (startA N ds)) : FnOk P w K mg base CX0 (k + 1) f fd ps (spA K ps.length g) := by
  refine Fn.ok S (fun vs H Q E h => ?_) (fun cdv A outer s H vs Q E hr h => ?_)
  · obtain ⟨F, ds, C, hl, _⟩ := h
    exact hl
  · obtain ⟨F, ds, C, hl, hF, r, hg, hQ⟩ := h
    obtain ⟨t, ht⟩ := hb cdv A outer s H E hr
    refine ⟨t, ht.ps, ?_⟩
    have S0 : Sim K H F H (L2.start N vs) (startA N ds) := by
      unfold L2.start startA
      rw [r.length]
      exact sim_vals hF (.rfl' F H) r _
    refine ht.snd H F H _ _ _ _ S0 (hT ds C (by rw [← r.length]; exact hl) hg) ⟨fun F' H' σ' ρ' u S' q => ?_, fun F' H' σ' ρ' v c u S' q => hQ v c F' H' u S'.only q, fun _ _ _ _ _ _ q => q, fun _ _ _ _ _ _ q => q⟩
    exact hQ .non (.val .non) F' H' u ((S'.pushVal .non).only) q
theorem okB {g : FB} {T : TSp} (Fn : Fun K x qual st f fd) (S : FnScope N ps (defScope st))
    (hb : ∀ (cdv : Value) (A : Around) (outer : List Env) (s : Shared) (H : Hp) (E : XK), Room k (A.deeper (envOfC qual (defScope st) s.heap.objs.size f cdv)) → ∃ t, PPSs (cxOf CX0 P w K mg base N qual (defScope st) f cdv A outer s H E).nox (defBody st) t T)
    (hT : ∀ a xs ds C, ds.length + 1 = ps.length → g xs ds C → T { nx := fun ρ => ∃ ys, ρ[0]? = some (some (.own a ys)) ∧ C (.val .non) ys, rt := fun c ρ => ∃ ys, ρ[0]? = some (some (.own a ys)) ∧ C c ys } (startB N a xs ds)) : FnOk P w K mg base CX0 (k + 1) f fd ps (spB K ps.length g) := by
  refine Fn.ok S (fun vs H Q E h => ?_) (fun cdv A outer s H vs Q E hr h => ?_)
  · obtain ⟨F, a, us, xs, ws, ds, C, _, hl, _⟩ := h
    exact hl
  · obtain ⟨F, a, us, xs, ws, ds, C, rfl, hl, hF, hFa, hHa, r1, r2, hg, hQ⟩ := h
    obtain ⟨t, ht⟩ := hb cdv A outer s H E hr
    refine ⟨t, ht.ps, ?_⟩
    have S0 : Sim K (hide H a) F H (L2.start N (.ref a :: ws)) (startB N a xs ds) := by
      unfold L2.start startB
      rw [List.length_cons, r2.length]
      exact (sim_vals hF (.of (hide_same H a)) r2 _).cons_own hHa hFa hide_at notOwn_vals r1
    refine ht.snd (hide H a) F H _ _ _ _ S0 (hT a xs ds C (by rw [← r2.length]; exact hl) hg) ⟨fun F' H' σ' ρ' u S' q => ?_, fun F' H' σ' ρ' v c u S' q => ?_, fun _ _ _ _ _ _ q => q, fun _ _ _ _ _ _ q => q⟩
    · obtain ⟨ys, e, q⟩ := q
      exact hQ .non (.val .non) ys F' H' u ((S'.pushVal .non).only2 e) q
    · obtain ⟨ys, e, q⟩ := q
      exact hQ v c ys F' H' u (S'.only2 e) q
end
end Pl
namespace Pl
open PySem PySem.Spec PyProof.Rows L2
variable [TJ]
def liftE (K : PySem.W.Frag) (T : TEp) : TE := fun σ H R => ∃ (G F : Hp) (ρ : Ro) (Q : D → Ro → Prop), Sim K G F H σ ρ ∧ T ρ Q ∧ ∀ v d F' H' ρ', Up G F F' → Sim K G F' H' σ ρ' → Rep K F' v d → Q d ρ' → R v H'
def liftT (K : PySem.W.Frag) (T : TTp) : TT := fun σ H R => ∃ (G F : Hp) (ρ : Ro) (Q : Bool → Ro → Prop), Sim K G F H σ ρ ∧ T ρ Q ∧ ∀ b F' H' ρ', Up G F F' → Sim K G F' H' σ ρ' → Q b ρ' → R b H'
def liftG (K : PySem.W.Frag) (T : TGp) (is : List Nat) : TG := fun v σ H R => ∃ (G F : Hp) (ρ : Ro) (Q : Ro → Prop) (d : D), Sim K G F H σ ρ ∧ Rep K F v d ∧ T d ρ Q ∧ ∀ F' H' σ' ρ', Up G F F' → Sim K G F' H' σ' ρ' → (∀ j, j ∉ is → σ'[j]? = σ[j]?) → σ'.length = σ.length → Q ρ' → R σ' H'
section
variable {X : Cx}
theorem PPE.lift {e : Expr} {t : TE} {T : TEp} (h : PPE X e t T) : PPE X e (liftE X.K T) T :=
  ⟨⟨fun pins s σ H Q I ⟨G, F, ρ, Q', S, hT, k⟩ => h.pe.run pins s σ H Q I (h.snd G F H σ ρ Q' Q S hT k)⟩, fun G F H σ ρ Q R S hT k => ⟨G, F, ρ, Q, S, hT, k⟩⟩
theorem PPTs.lift {es : List Expr} {t : TT} {T : TTp} (h : PPTs X es t T) : PPTs X es (liftT X.K T) T :=
  ⟨⟨fun pins s σ H Q I ⟨G, F, ρ, Q', S, hT, k⟩ => h.pt.run pins s σ H Q I (h.snd G F H σ ρ Q' Q S hT k)⟩, fun G F H σ ρ Q R S hT k => ⟨G, F, ρ, Q, S, hT, k⟩⟩
theorem PTg.lift {tg : Expr} {g : TG} {T : TGp} {is : List Nat} (h : PTg X tg g T is) : PTg X tg (liftG X.K T is) T is :=
  ⟨⟨fun pins s σ H v u Q I r ⟨G, F, ρ, Q', d, S, rd, hT, k⟩ => h.pg.run pins s σ H v u Q I r (h.snd G F H σ ρ Q' Q v d S rd hT k)⟩, fun G F H σ ρ Q R v d S r hT k => ⟨G, F, ρ, Q, d, S, r, hT, k⟩⟩
end
section
variable {X : Cx} {elt tg iter : Expr} {ifs : List Expr} {scope : Scope} {own : List (Str × Nat)} {pos : Pos} {wi : TI} {Ti : TAp} {Gp : TGp} {is : List Nat} {Tt : TTp} {Te : TEp} {vs : List Nat}
theorem ppc_lcL (hc : X.calm = true) (hN : X.N.Nodup) (hi : PPI X tg iter wi Ti) (ok : BlkOk X.N X.env.scope scope own)
    (hg : ∀ (s : Shared) (H : Hp) (C : Addr) (cl : List (Str × Addr)) (fp : List Addr), PTg (X.blk s H scope (compEnvC scope cl C X.env) fp) tg (liftG X.K Gp is) Gp is) (ht : ∀ (s : Shared) (H : Hp) (C : Addr) (cl : List (Str × Addr)) (fp : List Addr), PPTs (X.blk s H scope (compEnvC scope cl C X.env) fp) ifs (liftT X.K Tt) Tt)
    (he : ∀ (s : Shared) (H : Hp) (C : Addr) (cl : List (Str × Addr)) (fp : List Addr), PPE (X.blk s H scope (compEnvC scope cl C X.env) fp) elt (liftE X.K Te) Te) (hs : ∀ x, foldedSetIterable iter X.env x = pure x := by intro _; rfl) (hsub : ∀ i ∈ is, i ∈ own.map (·.2) := by decide) :
    PPC X (.ListComp elt [⟨tg, iter, ifs, 0⟩] scope pos) (tLc wi (liftG X.K Gp is) (liftT X.K Tt) (liftE X.K Te) (own.map (·.2))) (pLcO Ti Gp Tt Te (own.map (·.2))) := ppc_lc hc hN hi ok hg ht he hs hsub
theorem ppe_lcL (hc : X.calm = true) (hN : X.N.Nodup) (hi : PPI X tg iter wi Ti) (ok : BlkOk X.N X.env.scope scope own)
    (hg : ∀ (s : Shared) (H : Hp) (C : Addr) (cl : List (Str × Addr)) (fp : List Addr), PTg (X.blk s H scope (compEnvC scope cl C X.env) fp) tg (liftG X.K Gp is) Gp is) (ht : ∀ (s : Shared) (H : Hp) (C : Addr) (cl : List (Str × Addr)) (fp : List Addr), PPTs (X.blk s H scope (compEnvC scope cl C X.env) fp) ifs (liftT X.K Tt) Tt)
    (he : ∀ (s : Shared) (H : Hp) (C : Addr) (cl : List (Str × Addr)) (fp : List Addr), PPE (X.blk s H scope (compEnvC scope cl C X.env) fp) elt (liftE X.K Te) Te) (hs : ∀ x, foldedSetIterable iter X.env x = pure x := by intro _; rfl) (hsub : ∀ i ∈ is, i ∈ own.map (·.2) := by decide) :
    PPE X (.ListComp elt [⟨tg, iter, ifs, 0⟩] scope pos) (tLc wi (liftG X.K Gp is) (liftT X.K Tt) (liftE X.K Te) (own.map (·.2))) (pLc Ti Gp Tt Te (own.map (·.2))) := ppe_lc hc hN hi ok hg ht he hs hsub
theorem pps_setLcL {i : Nat} {y : Str} {py spos : Pos} (hc : X.calm = true) (hN : X.N.Nodup) (hi : PPI X tg iter wi Ti) (ok : BlkOk X.N X.env.scope scope own)
    (hg : ∀ (s : Shared) (H : Hp) (C : Addr) (cl : List (Str × Addr)) (fp : List Addr), PTg (X.blk s H scope (compEnvC scope cl C X.env) fp) tg (liftG X.K Gp is) Gp is) (ht : ∀ (s : Shared) (H : Hp) (C : Addr) (cl : List (Str × Addr)) (fp : List Addr), PPTs (X.blk s H scope (compEnvC scope cl C X.env) fp) ifs (liftT X.K Tt) Tt)
    (he : ∀ (s : Shared) (H : Hp) (C : Addr) (cl : List (Str × Addr)) (fp : List Addr), PPE (X.blk s H scope (compEnvC scope cl C X.env) fp) elt (liftE X.K Te) Te)
    (hy : X.N[i]? = some y := by rfl) (hyl : X.env.scope.names.lookup y = some .local := by rfl)
    (hsw : swapsWith (.ListComp elt [⟨tg, iter, ifs, 0⟩] scope pos) (some (.Name y py)) spos.line X.env = pure true := by exact sw_true rfl rfl rfl (by decide +kernel)) (hs : ∀ x, foldedSetIterable iter X.env x = pure x := by intro _; rfl) (hsub : ∀ i ∈ is, i ∈ own.map (·.2) := by decide) :
    PPS X (.Assign [.Name y py] (.ListComp elt [⟨tg, iter, ifs, 0⟩] scope pos) spos) (tAsg (tLc wi (liftG X.K Gp is) (liftT X.K Tt) (liftE X.K Te) (own.map (·.2))) (gName i)) (pSet i (pLcO Ti Gp Tt Te (own.map (·.2)))) := pps_setLc hc hN hi ok hg ht he hy hyl hsw hs hsub
end
theorem hu64 {k : Nat} {A : Around} (hr : Room k A) : A.units + 64 < cLine := by have := hr.un; omega
end Pl
namespace Pl
open PySem PySem.Spec PyProof.Rows L2
theorem ifB {b : Bool} {A B : Prop} (h1 : b = true → A) (h2 : b = false → B) : if b = true then A else B := by
  cases b with
  | true => exact ite_ti (h1 rfl)
  | false => exact ite_fi (h2 rfl)
theorem ifT {b : Bool} {A B : Prop} (h : b = true) (h1 : A) : if b = true then A else B := by subst h; exact ite_ti h1
theorem ifF {b : Bool} {A B : Prop} (h : b = false) (h1 : B) : if b = true then A else B := by subst h; exact ite_fi h1
theorem dT {p : Prop} [Decidable p] (h : decide p = true) : p := of_decide_eq_true h
theorem dF {p : Prop} [Decidable p] (h : decide p = false) : ¬ p := of_decide_eq_false h
theorem sl1000 {n : Nat} (h : n ≤ 1000) : n ≤ sizeLine := Nat.le_of_lt (small1000 h)
theorem for_inv {g : TGp} {tb : TSp} {P : PEnds} (I : List D → Ro → Prop) (hs : ∀ (d : D) (r : List D) (ρ : Ro) (K : Ro → Prop), (∀ ρ', I r ρ' → K ρ') → I (d :: r) ρ → g d ρ fun ρ1 => tb { P with nx := K, ct := K, bk := P.nx } ρ1)
    (he : ∀ ρ, I [] ρ → P.nx ρ) : ∀ (ds : List D) (ρ : Ro), I ds ρ → forW g tb P ds ρ
  | [], ρ, h => he ρ h
  | d :: ds, ρ, h => hs d ds ρ _ (fun ρ' h' => for_inv I hs he ds ρ' h') h
theorem lcW_inv {vs : List Nat} {g : TGp} {tt : TTp} {te : TEp} {Q : List D → Ro → Prop} (I : List D → List D → Ro → Prop)
    (hs : ∀ (d : D) (r acc : List D) (ρ : Ro) (K : List D → Ro → Prop), (∀ acc' ρ', I r acc' ρ' → K acc' ρ') → I (d :: r) acc ρ → g d (wipeP ρ vs) fun ρ2 => tt ρ2 fun b ρ3 => if b = true then te ρ3 fun y ρ4 => acc.length < sizeLine ∧ K (acc ++ [y]) (restore ρ ρ4 vs) else K acc (restore ρ ρ3 vs))
    (he : ∀ acc ρ, I [] acc ρ → Q acc ρ) : ∀ (ds acc : List D) (ρ : Ro), I ds acc ρ → lcW vs g tt te Q ds acc ρ
  | [], acc, ρ, h => he acc ρ h
  | d :: ds, acc, ρ, h => hs d ds acc ρ (fun acc' ρ' => lcW vs g tt te Q ds acc' ρ') (fun acc' ρ' h' => lcW_inv I hs he ds acc' ρ' h') h
def ElemOk (vs : List Nat) (g : TGp) (te : TEp) (ρ : Ro) (d y : D) : Prop := ∀ K : D → Ro → Prop, (∀ ρ4, restore ρ ρ4 vs = ρ → K y ρ4) → g d (wipeP ρ vs) fun ρ2 => te ρ2 K
theorem lcW_map {vs : List Nat} {g : TGp} {te : TEp} {Q : List D → Ro → Prop} {f : D → D} {ρ : Ro} : ∀ (ds acc : List D), (∀ d ∈ ds, ElemOk vs g te ρ d (f d)) → acc.length + ds.length ≤ 1000 → Q (acc ++ ds.map f) ρ → lcW vs g pYes te Q ds acc ρ
  | [], acc, _, _, hQ => by
    have hQ : Q (acc ++ []) ρ := hQ
    rw [List.append_nil] at hQ
    exact hQ
  | d :: ds, acc, h, hl, hQ => by
    have hl' : acc.length + (ds.length + 1) ≤ 1000 := hl
    refine h d (by simp) _ fun ρ4 e => ⟨small1000 (by omega), ?_⟩
    rw [e]
    refine lcW_map ds _ (fun x hx => h x (by simp [hx])) (by rw [List.length_append]; show acc.length + 1 + ds.length ≤ 1000; omega) ?_
    rw [List.append_assoc]
    exact hQ
abbrev dI (ns : List Int) : List D := ns.map D.int
theorem ints_len (ns : List Int) : (dI ns).length = ns.length := by simp
theorem lcW_ints {vs : List Nat} {g : TGp} {te : TEp} {Q : List D → Ro → Prop} {h : Int → D} {ρ : Ro} {ns : List Int} (hs : ∀ x ∈ ns, ElemOk vs g te ρ (.int x) (h x)) (hl : ns.length ≤ 1000) (hQ : Q (ns.map h) ρ) : lcW vs g pYes te Q (dI ns) [] ρ := by
  refine lcW_map (f := fun d => match d with | .int x => h x | _ => .non) (dI ns) [] (fun d hd => ?_) (by simpa using hl) ?_
  · obtain ⟨x, hx, rfl⟩ := List.mem_map.mp hd
    exact hs x hx
  · rw [List.nil_append, List.map_map]
    exact hQ
def Sq (d : D) (ns : List Int) : Prop := d = .tup (dI ns) ∨ d = .lst (dI ns)
end Pl
namespace Pl
open PySem PySem.Spec PyProof.Rows L2
theorem fnNoneB {P : Program} {w : World} {K : PySem.W.Frag} {mg : Str → Option Value} {base : Heap} {k n : Nat} {x qual : Str} {st : Stmt} {f : Addr} {fd : FuncData} {ps : List Str} (_ : Fun K x qual st f fd) : FnOk P w K mg base CX0 k f fd ps (spB K n fun _ _ _ => False) :=
  ⟨fun _ _ _ _ ⟨_, _, _, _, _, _, _, _, _, _, _, _, _, _, h, _⟩ => h.elim, fun _ _ _ _ _ _ _ _ _ _ _ _ _ ⟨_, _, _, _, _, _, _, _, _, _, _, _, _, _, h, _⟩ => h.elim⟩
theorem fnNoneA {P : Program} {w : World} {K : PySem.W.Frag} {mg : Str → Option Value} {base : Heap} {k n : Nat} {x qual : Str} {st : Stmt} {f : Addr} {fd : FuncData} {ps : List Str} (_ : Fun K x qual st f fd) : FnOk P w K mg base CX0 k f fd ps (spA K n fun _ _ => False) :=
  ⟨fun _ _ _ _ ⟨_, _, _, _, _, _, h, _⟩ => h.elim, fun _ _ _ _ _ _ _ _ _ _ _ _ _ ⟨_, _, _, _, _, _, h, _⟩ => h.elim⟩
end Pl
namespace Pl
open PySem PySem.Spec PyProof.Rows L2
variable [TJ]
def tyN : D → String
  | .non => "NoneType"
  | .bl _ => "bool"
  | .int _ => "int"
  | .str _ => "str"
  | .lst _ => "list"
  | .tup _ => "tuple"
  | .scr _ => "list"
  | .adr _ => "list"
  | .exc _ _ => "object"
def D.isInt : D → Bool
  | .int _ => true
  | .bl _ => true
  | _ => false
def D.isBl : D → Bool
  | .bl _ => true
  | _ => false
def D.isStr : D → Bool
  | .str _ => true
  | _ => false
def D.isLst : D → Bool
  | .lst _ => true
  | .scr _ => true
  | .adr _ => true
  | _ => false
def D.isTup : D → Bool
  | .tup _ => true
  | _ => false
structure IsT (n : String) (p : D → Bool) : Prop where
  kit : ∀ d, kitB (tyN d) n = some (p d)
  boot : bootBuiltins (Str.ofString n) = some (.type n)
theorem isT_int : IsT "int" D.isInt := ⟨fun d => by cases d <;> with_unfolding_all rfl, by decide +kernel⟩
theorem isT_bool : IsT "bool" D.isBl := ⟨fun d => by cases d <;> with_unfolding_all rfl, by decide +kernel⟩
theorem isT_str : IsT "str" D.isStr := ⟨fun d => by cases d <;> with_unfolding_all rfl, by decide +kernel⟩
theorem isT_list : IsT "list" D.isLst := ⟨fun d => by cases d <;> with_unfolding_all rfl, by decide +kernel⟩
theorem isT_tuple : IsT "tuple" D.isTup := ⟨fun d => by cases d <;> with_unfolding_all rfl, by decide +kernel⟩
theorem Rep.ty {K : PySem.W.Frag} {F H : Hp} (e : Same F H) {v : V} {d : D} (r : Rep K F v d) (hn : (∀ ns, d ≠ .scr ns) ∧ (∀ a, d ≠ .adr a) ∧ ∀ c y, d ≠ .exc c y) : TyX K H v (.type (tyN d)) := by
  cases r with
  | non => exact .base .non
  | bl b => exact .base (.bl b)
  | int i => exact .base (.int i)
  | str z => exact .base (.str z)
  | lst h _ => exact .base (.lst (e _ _ h))
  | tup h _ => exact .base (.tup (e _ _ h))
  | scr _ => exact absurd rfl (hn.1 _)
  | adr _ => exact absurd rfl (hn.2.1 _)
  | exc _ _ _ _ => exact absurd rfl (hn.2.2 _ _)
def notScr (d : D) (A : Prop) : Prop := match d with
  | .scr _ => False
  | .adr _ => False
  | .exc _ _ => False
  | _ => A
theorem notScr_of {d : D} {A : Prop} (h : notScr d A) : ((∀ ns, d ≠ .scr ns) ∧ (∀ a, d ≠ .adr a) ∧ ∀ c y, d ≠ .exc c y) ∧ A := by
  cases d with
  | scr ns => exact h.elim
  | adr a => exact h.elim
  | exc _ _ => exact h.elim
  | _ => exact ⟨⟨fun _ z => (by cases z), fun _ z => (by cases z), fun _ _ z => (by cases z)⟩, h⟩
section
variable {X : Cx} {e : Expr} {te : TE} {Te : TEp} {pos : Pos}
def pIsi (p : D → Bool) (Te : TEp) : TEp := fun ρ Q => Te ρ fun d ρ1 => notScr d (Q (.bl (p d)) ρ1)
theorem ppe_isi {n : String} {p : D → Bool} {fp np : Pos} (ht : IsT n p) (hg : Gl X "isinstance") (hm : X.mg "isinstance" = none) (hgn : Gl X (Str.ofString n)) (hmn : X.mg (Str.ofString n) = none) (he : PPE X e te Te) (hnn : Str.ofString n ≠ "__name__" := by decide) (hnd : (Str.ofString n == ("__debug__" : Str)) = false := by decide)
    (hs : starEach [e, .Name (Str.ofString n) np] X.env = (false, eval e X.env) :: starEach [.Name (Str.ofString n) np] X.env := by rfl) (hs2 : starEach [.Name (Str.ofString n) np] X.env = (false, eval (.Name (Str.ofString n) np) X.env) :: starEach [] X.env := by rfl) (hpl : (backTo pos (starEach [.Name (Str.ofString n) np] X.env)).any (·.1) = false := by rfl) :
    PPE X (.Call (.Name "isinstance" fp) [e, .Name (Str.ofString n) np] [] pos) (tCB (rIsi X.K) (tCons te (tCons (tC (.ty n)) tNil))) (pIsi p Te) :=
  ⟨pe_callB call_isi hg hm (by decide +kernel) (pa_cons he.pe (pa_cons (pe_bltn hgn hmn ht.boot rfl hnn hnd) pa_nil hs2) hs) (by decide) (by decide) hs hpl, fun G F H σ ρ Q R S hT k =>
    he.snd G F H σ ρ _ _ S hT fun v d F1 H1 ρ1 u1 S1 r1 q1 => by
      obtain ⟨hn, q⟩ := notScr_of q1
      exact ⟨v, .ty n, _, _, p d, rfl, .ty n, r1.ty S1.hF hn, ht.kit d, k _ _ F1 H1 ρ1 u1 S1 (.bl _) q⟩⟩
theorem kitAny_nil {K : PySem.W.Frag} {t : Value} : PySem.W.kitAny K t [] = some false := rfl
def pIsi2 (p q : D → Bool) (Te : TEp) : TEp := fun ρ Q => Te ρ fun d ρ1 => notScr d (Q (.bl (p d || q d)) ρ1)
theorem ppe_isi2 {n m : String} {p q : D → Bool} {fp np mp tp : Pos} {kk : Nat} (ht : IsT n p) (ht2 : IsT m q) (hg : Gl X "isinstance") (hm : X.mg "isinstance" = none) (hgn : Gl X (Str.ofString n)) (hmn : X.mg (Str.ofString n) = none) (hgm : Gl X (Str.ofString m)) (hmm : X.mg (Str.ofString m) = none) (he : PPE X e te Te)
    (hnn : Str.ofString n ≠ "__name__" := by decide) (hnd : (Str.ofString n == ("__debug__" : Str)) = false := by decide) (hmn' : Str.ofString m ≠ "__name__" := by decide) (hmd : (Str.ofString m == ("__debug__" : Str)) = false := by decide)
    (hs : starEach [e, .Tuple [.Name (Str.ofString n) np, .Name (Str.ofString m) mp] kk tp] X.env = (false, eval e X.env) :: starEach [.Tuple [.Name (Str.ofString n) np, .Name (Str.ofString m) mp] kk tp] X.env := by rfl)
    (hs2 : starEach [.Tuple [.Name (Str.ofString n) np, .Name (Str.ofString m) mp] kk tp] X.env = (false, eval (.Tuple [.Name (Str.ofString n) np, .Name (Str.ofString m) mp] kk tp) X.env) :: starEach [] X.env := by rfl)
    (hs3 : starEach [.Name (Str.ofString n) np, .Name (Str.ofString m) mp] X.env = (false, eval (.Name (Str.ofString n) np) X.env) :: starEach [.Name (Str.ofString m) mp] X.env := by rfl)
    (hs4 : starEach [.Name (Str.ofString m) mp] X.env = (false, eval (.Name (Str.ofString m) mp) X.env) :: starEach [] X.env := by rfl)
    (hpl : (backTo pos (starEach [.Tuple [.Name (Str.ofString n) np, .Name (Str.ofString m) mp] kk tp] X.env)).any (·.1) = false := by rfl) :
    PPE X (.Call (.Name "isinstance" fp) [e, .Tuple [.Name (Str.ofString n) np, .Name (Str.ofString m) mp] kk tp] [] pos) (tCB (rIsiT X.K) (tCons te (tCons (tTup (tCons (tC (.ty n)) (tCons (tC (.ty m)) tNil))) tNil))) (pIsi2 p q Te) :=
  ⟨pe_callB call_isiT hg hm (by decide +kernel) (pa_cons he.pe (pa_cons (pe_tup (pa_cons (pe_bltn hgn hmn ht.boot rfl hnn hnd) (pa_cons (pe_bltn hgm hmm ht2.boot rfl hmn' hmd) pa_nil hs4) hs3)) pa_nil hs2) hs) (by decide) (by decide) hs hpl, fun G F H σ ρ Q R S hT k =>
    he.snd G F H σ ρ _ _ S hT fun v d F1 H1 ρ1 u1 S1 r1 q1 => by
      obtain ⟨hn, q'⟩ := notScr_of q1
      refine ⟨by show (2 : Nat) ≤ sizeLine; decide, fun a ha => ?_⟩
      refine ⟨v, a, [.ty n, .ty m], _, [.type n, .type m], p d || q d, rfl, upd_same, .cons (.ty n) (.cons (.ty m) .nil), r1.ty (S1.hF.trans (same_new ha)) hn, ?_, k _ _ F1 _ ρ1 u1 (S1.more ha) (.bl _) q'⟩
      refine kitAny_cons (b := p d) (ht.kit d) (fun h => kitAny_cons (b := q d) (ht2.kit d) (fun h2 => by rw [h, h2]; rfl) (fun h2 => by rw [h2]; simp)) (fun h => by rw [h]; rfl)⟩
end
def okN : Nat → D → Prop
  | _, .non => True
  | _, .bl _ => True
  | _, .int _ => True
  | _, .str z => (D.str z).sh
  | n + 1, .lst xs => xs.length ≤ 1000 ∧ ∀ x ∈ xs, okN n x
  | n + 1, .tup xs => xs.length ≤ 1000 ∧ ∀ x ∈ xs, okN n x
  | _, _ => False
def gS : Nat → FA
  | 0 => fun _ _ => False
  | n + 1 => fun ds C => ∃ d, ds = [d, d] ∧ okN n d ∧ C (.val (.bl true))
end Pl
namespace Pl
open PySem PySem.Spec PyProof.Rows L2
variable [TJ]
section
variable {X : Cx}
def fNotIn : F2 := fun x y Q => match y with
  | .lst ys => x.sh ∧ (D.lst ys).sh ∧ Q (.bl (!ys.any fun z => z.eqv x))
  | _ => False
theorem any_toPys (x : D) : ∀ ys : List D, ((toPys ys).any fun z => PyData.eqv z (toPy x)) = ys.any fun z => z.eqv x
  | [] => rfl
  | y :: ys => by
    rw [toPys, List.any_cons, List.any_cons, any_toPys x ys]; rfl
theorem cm_nin (hu : X.A.units + 65 < cLine) : Cmp X .NotIn (rNotInD X.K) fNotIn := ⟨op_notInD hu, fun F H x y dx dy Q R hs rx ry hf k => by
  cases ry with
  | @lst a vs ys h r =>
    obtain ⟨h1, h2, q⟩ := hf
    refine ⟨toPy dx, toPys ys, rx.dp hs h1, ?_, h1, ?_, ?_⟩
    · have := (Rep.lst h r).dp hs h2; rw [toPy] at this; exact this
    · unfold D.sh at h2; rw [toPy] at h2; exact h2
    · rw [any_toPys]; exact k _ _ _ _ (.old (.bl _)) q
  | _ => exact hf.elim⟩
theorem hu65 {k : Nat} {A : Around} (hr : Room k A) : A.units + 65 < cLine := by have := hr.un; omega
end
end Pl
namespace Pl
open PySem PySem.Spec PyProof.Rows L2
variable [TJ]
section
variable {X : Cx} {elt tg iter : Expr} {ifs : List Expr} {scope : Scope} {own : List (Str × Nat)} {pos : Pos} {wi : TI} {Ti : TAp} {Gp : TGp} {is : List Nat} {Tt : TTp} {Te : TEp} {vs : List Nat}
theorem pps_setLcV {i : Nat} {y : Str} {py spos : Pos} (hc : X.calm = true) (hN : X.N.Nodup) (hi : PPI X tg iter wi Ti) (ok : BlkOk X.N X.env.scope scope own)
    (hg : ∀ (s : Shared) (H : Hp) (C : Addr) (cl : List (Str × Addr)) (fp : List Addr), PTg (X.blk s H scope (compEnvC scope cl C X.env) fp) tg (liftG X.K Gp is) Gp is) (ht : ∀ (s : Shared) (H : Hp) (C : Addr) (cl : List (Str × Addr)) (fp : List Addr), PPTs (X.blk s H scope (compEnvC scope cl C X.env) fp) ifs (liftT X.K Tt) Tt)
    (he : ∀ (s : Shared) (H : Hp) (C : Addr) (cl : List (Str × Addr)) (fp : List Addr), PPE (X.blk s H scope (compEnvC scope cl C X.env) fp) elt (liftE X.K Te) Te)
    (hy : X.N[i]? = some y := by rfl) (hyl : X.env.scope.names.lookup y = some .local := by rfl)
    (hsw : swapsWith (.ListComp elt [⟨tg, iter, ifs, 0⟩] scope pos) (some (.Name y py)) spos.line X.env = pure true := by exact sw_true rfl rfl rfl (by decide +kernel)) (hs : ∀ x, foldedSetIterable iter X.env x = pure x := by intro _; rfl) (hsub : ∀ i ∈ is, i ∈ own.map (·.2) := by decide) :
    PPS X (.Assign [.Name y py] (.ListComp elt [⟨tg, iter, ifs, 0⟩] scope pos) spos) (tAsg (tLc wi (liftG X.K Gp is) (liftT X.K Tt) (liftE X.K Te) (own.map (·.2))) (gName i)) (pSet i (pVal (pLc Ti Gp Tt Te (own.map (·.2))))) :=
  ⟨(pps_setLcL (i := i) hc hN hi ok hg ht he hy hyl hsw hs hsub).ps, snd_set (ppc_val (ppe_lcL (pos := pos) hc hN hi ok hg ht he hs hsub)).snd⟩
end
end Pl
namespace Pl
open PySem PySem.Spec PyProof.Rows L2
variable [TJ]
section
variable {X : Cx} {o e : Expr} {to te : TE} {To Te : TEp}
theorem Reps.strs {K : PySem.W.Frag} {F : Hp} : ∀ {vs : List V} {ys : List Str}, Reps K F vs (ys.map D.str) → vs = ys.map V.str
  | _, [], .nil => rfl
  | _, y :: ys, .cons h t => by cases h; rw [Reps.strs t]; rfl
def pJoin (To Te : TEp) : TEp := fun ρ Q => To ρ fun x ρ1 => match x with
  | .str a => Te ρ1 fun y ρ2 => match y with
    | .lst zs => ∃ ys : List Str, zs = ys.map D.str ∧ (ys.map (·.length)).sum + ys.length * a.length ≤ 16777216 ∧ Q (.str (Txt.join a ys)) ρ2
    | _ => False
  | _ => False
theorem ppe_join {apos pos : Pos} (ho : PPE X o to To) (he : PPE X e te Te) (hs : starEach [e] X.env = [(false, eval e X.env)] := by rfl) (hbase : attributeBase o "join" X.env (eval o X.env) = eval o X.env := by rfl) (hline : (apos.endLine == pos.line) = true := by rfl) :
    PPE X (.Call (.Attribute o "join" apos) [e] [] pos) (tM1 (fun x xs H Q => ∃ a p, ∃ ys : List Str, x = .str a ∧ xs = [.ref p] ∧ (SqL X.K H p (ys.map V.str) ∨ SqT X.K H p (ys.map V.str)) ∧ (ys.map (·.length)).sum + ys.length * a.length ≤ 16777216 ∧ Q (.str (Txt.join a ys)) H) to te) (pJoin To Te) := ⟨pe_join ho.pe he.pe hs hbase hline, fun G F H σ ρ Q R S hT k =>
  ho.snd G F H σ ρ _ _ S hT fun v d F1 H1 ρ1 u1 S1 r1 q1 => by
    cases r1 with
    | str a =>
      refine ⟨⟨a, rfl⟩, he.snd G F1 H1 σ ρ1 _ _ S1 q1 fun w dw F2 H2 ρ2 u2 S2 r2 q2 => ?_⟩
      cases r2 with
      | lst h r =>
        obtain ⟨ys, rfl, hz, q⟩ := q2
        have := r.strs
        subst this
        exact ⟨a, _, ys, rfl, rfl, .inl (SqL.of (S2.hF _ _ h)), hz, k _ _ F2 H2 ρ2 (u1.trans u2) S2 (.str _) q⟩
      | _ => exact q2.elim
    | _ => exact q1.elim⟩
end
def signsD (x : Str) : List D := x.cps.toList.map fun c => .str ⟨#[c]⟩
theorem signsD_get {x : Str} {i : Nat} {d : D} (h : (signsD x)[i]? = some d) : ∃ c, x.cps[i]? = some c ∧ d = .str ⟨#[c]⟩ := by
  unfold signsD at h
  rw [List.getElem?_map] at h
  cases e : x.cps.toList[i]? with
  | none => rw [e] at h; cases h
  | some c => rw [e] at h; exact ⟨c, by rw [← Array.getElem?_toList]; exact e, (Option.some.inj h).symm⟩
theorem signsD_len (x : Str) : (signsD x).length = x.cps.size := by simp [signsD]
theorem itrep_str {K : PySem.W.Frag} {F : Hp} (x : Str) : ItRep K (Its x) F (signsD x) := fun F' H e1 e2 => by
  refine ⟨fun i d hd => ?_, by show x.cps.size ≤ (signsD x).length; rw [signsD_len]; exact Nat.le_refl _⟩
  obtain ⟨c, hc, rfl⟩ := signsD_get hd
  refine ⟨(Array.getElem?_eq_some_iff.mp hc).1, fun v H' y => ?_⟩
  obtain ⟨rfl, c', hc', rfl⟩ := y
  rw [hc] at hc'
  cases hc'
  exact ⟨F', .old (.str _)⟩
section
variable {X : Cx} {tg : Expr} {l : Expr} {tl : TE} {Tl : TEp} {pos : Pos}
def jStr (T : TEp) : TAp := fun ρ Q => T ρ fun d ρ1 => match d with | .str x => Q (signsD x) ρ1 | _ => False
theorem ppi_str (hl : PPE X l tl Tl) : PPI X tg l (iStr tl) (jStr Tl) := ⟨pi_str hl.pe, fun G F H σ ρ Q R S hT k =>
  hl.snd G F H σ ρ _ _ S hT fun v d F1 H1 ρ1 u1 S1 r1 q1 => by
    cases r1 with
    | str x => exact ⟨x, rfl, k _ _ F1 H1 ρ1 u1 S1 (itrep_str x) q1⟩
    | _ => exact q1.elim⟩
end
theorem Reps.eraseIdx {K : PySem.W.Frag} {F : Hp} : ∀ {vs : List V} {ds : List D} (i : Nat), Reps K F vs ds → Reps K F (vs.eraseIdx i) (ds.eraseIdx i)
  | _, _, _, .nil => .nil
  | _, _, 0, .cons _ t => t
  | _, _, i + 1, .cons q t => .cons q (Reps.eraseIdx i t)
theorem seqIndex_nat {k n : Nat} (h : k < n) : seqIndex? (k : Int) n = some k := by
  have h1 : ¬ ((k : Int) < 0) := by omega
  have h2 : (decide (0 ≤ (k : Int)) && decide ((k : Int) < (n : Int))) = true := by simp; omega
  show (if (decide (0 ≤ (if (k : Int) < 0 then (k : Int) + n else k)) && decide ((if (k : Int) < 0 then (k : Int) + n else k) < (n : Int))) = true then some (if (k : Int) < 0 then (k : Int) + n else k).toNat else none) = some k
  rw [if_neg h1, if_pos h2]
  rfl
section
variable {X : Cx} {e : Expr} {te : TE} {Te : TEp}
def pPop (i : Nat) (Te : TEp) : TEp := fun ρ Q => match ρ[i]? with
  | some (some (.own a _)) => Te ρ fun y ρ1 => ∃ (xs1 : List D) (k : Nat) (v : D), ρ1[i]? = some (some (.own a xs1)) ∧ y = .int (k : Int) ∧ k < 1000000 ∧ xs1[k]? = some v ∧ Q v (ρ1.set i (some (.own a (xs1.eraseIdx k))))
  | _ => False
theorem ppe_pop (i : Nat) {x : Str} {p ap cp : Pos} (he : PPE X e te Te) (hN : X.N[i]? = some x := by rfl) (hv : Vis X.env.scope x := by first | exact Or.inl rfl | exact Or.inr (Or.inl rfl) | exact Or.inr (Or.inr rfl)) (hd : (x == ("__debug__" : Str)) = false := by decide)
    (hcd : (x == ("__classdict__" : Str)) = false := by decide)
    (hbase : attributeBase (.Name x p) "pop" X.env (eval (.Name x p) X.env) = eval (.Name x p) X.env := by rfl)
    (hfew : ((backTo cp (starEach [e] X.env)).all (fun x => !x.1) && (backToKw cp (keywordEach [] X.env)).all (fun x => x.1.isSome)
      && decide ([e].length + ([] : List Keyword).length + (if ([] : List Keyword).isEmpty then 0 else 1) < 30)) = true := by rfl)
    (hline : (ap.endLine == cp.line) = true := by rfl) (hs : starEach [e] X.env = (false, eval e X.env) :: starEach [] X.env := by rfl) :
    PPE X (.Call (.Attribute (.Name x p) "pop" ap) [e] [] cp) (tBM X.K "list" rPopAt (tVar i) (tCons te tNil)) (pPop i Te) := ⟨pe_bm PySem.F.plainAttrs_list PySem.F.slot_list_pop PySem.F.type_list_pop mt_popAt (pe_var hN hv hd hcd) (pa_cons he.pe pa_nil hs) hbase hfew hline hs rfl, fun G F H σ ρ Q R S hT k => by
  unfold pPop at hT
  split at hT
  · rename_i a xs e0
    obtain ⟨h1, h2, h3, vs, h4, h5⟩ := S.own i a xs e0
    refine ⟨.ref a, h1, .inl ⟨rfl, _, SqL.of h4⟩, he.snd G F H σ ρ _ _ S hT fun y dy F1 H1 ρ1 u1 S1 r1 q1 => ?_⟩
    obtain ⟨xs1, j, v, e1, rfl, hj, e2, q⟩ := q1
    obtain ⟨g1, g2, g3, ws, g4, g5⟩ := S1.own i a xs1 e1
    cases r1
    obtain ⟨w, hw, rw'⟩ := g5.get e2
    exact ⟨a, ws, j, j, w, rfl, rfl, g4, by omega, by omega, seqIndex_nat (lt_of_get hw), hw, k w v F1 _ _ u1 (S1.mut e1 (g5.eraseIdx j)) rw' q⟩
  · exact hT.elim⟩
end
section
variable {X : Cx} {e : Expr} {te : TE} {Te : TEp} {pos : Pos}
def pAugI (i : Nat) (f : Int → Int → Int) (Te : TEp) : TSp := fun P ρ => ∃ a : Int, ρ[i]? = some (some (.val (.int a))) ∧ Te ρ fun d ρ1 => match d with
  | .int b => P.nx (ρ1.set i (some (.val (.int (f a b)))))
  | _ => False
theorem snd_aug {K : PySem.W.Frag} {i : Nat} {f : Int → Int → Int} (he : SndE K te Te) : SndS K (tAug i te (ipI f)) (pAugI i f Te) := fun G F H σ ρ P D S h r => by
  obtain ⟨a, e0, h⟩ := h
  obtain ⟨v, h1, r1⟩ := S.val i _ e0
  cases r1
  refine ⟨_, h1, he G F H σ ρ _ _ S h fun w d F1 H1 ρ1 u1 S1 r2 q => ?_⟩
  cases r2 with
  | int b => exact ⟨a, b, rfl, rfl, r.nx F1 H1 _ _ u1 (S1.setVal i (.int _)) q⟩
  | _ => exact q.elim
theorem pps_augAdd {i : Nat} {x : Str} {pos' : Pos} (hN : X.N.Nodup) (he : PPE X e te Te) (hi : X.N[i]? = some x := by rfl) (hx : Loc X.env.scope x := by first | exact Or.inl rfl | exact Or.inr rfl) (hf : X.fn x = true ∨ X.env.scope.names.lookup x = some .local := by first | exact .inl rfl | exact .inr rfl | assumption) :
    PPS X (.AugAssign (.Name x pos') .Add e pos) (tAug i te (ipI fun i j => i + j)) (pAugI i (fun i j => i + j) Te) := ⟨ps_aug hN hi hx he.pe ip_add hf, snd_aug he.snd⟩
theorem pps_augSub {i : Nat} {x : Str} {pos' : Pos} (hN : X.N.Nodup) (he : PPE X e te Te) (hi : X.N[i]? = some x := by rfl) (hx : Loc X.env.scope x := by first | exact Or.inl rfl | exact Or.inr rfl) (hf : X.fn x = true ∨ X.env.scope.names.lookup x = some .local := by first | exact .inl rfl | exact .inr rfl | assumption) :
    PPS X (.AugAssign (.Name x pos') .Sub e pos) (tAug i te (ipI fun i j => i - j)) (pAugI i (fun i j => i - j) Te) := ⟨ps_aug hN hi hx he.pe ip_sub hf, snd_aug he.snd⟩
end
end Pl
namespace Pl
open PySem PySem.Spec PyProof.Rows L2
variable [TJ]
section
variable {X : Cx} {a : Expr} {ta : TE} {Ta : TEp} {pos : Pos}
def downD (n : Nat) : List D := (List.range n).map fun (i : Nat) => .int ((n : Int) - 1 - (i : Int))
theorem itrep_down {K : PySem.W.Frag} {F : Hp} (n : Nat) : ItRep K (Itc (0 + (((((n : Int) - 0).toNat : Nat)) : Int) - 1) (-1) ((n : Int) - 0).toNat) F (downD n) := fun F' H e1 e2 => by
  have hn : ((n : Int) - 0).toNat = n := by omega
  refine ⟨fun i d hd => ?_, ?_⟩
  · have hi : i < n := by have := lt_of_get hd; simpa [downD] using this
    refine ⟨by show i < ((n : Int) - 0).toNat; omega, fun x H' y => ?_⟩
    obtain ⟨rfl, rfl⟩ := y
    have e : d = .int ((n : Int) - 1 - i) := by
      unfold downD at hd
      rw [List.getElem?_map, List.getElem?_range hi] at hd
      exact (Option.some.inj hd).symm
    subst e
    have e2 : 0 + (((((n : Int) - 0).toNat : Nat)) : Int) - 1 + (i : Int) * (-1) = (n : Int) - 1 - i := by rw [hn]; omega
    rw [e2]
    exact ⟨F', .old (.int _)⟩
  · show ((n : Int) - 0).toNat ≤ (downD n).length
    simp [downD]
def jRev (T : TEp) : TAp := fun ρ Q => T ρ fun d ρ1 => match d with | .int m => ∃ n : Nat, m = (n : Int) ∧ n < 2 ^ 61 ∧ Q (downD n) ρ1 | _ => False
theorem ppi_rev {tg : Expr} {p q pos2 : Pos} (hg : Gl X "reversed") (hm : X.mg "reversed" = none) (hgr : Gl X "range") (hmr : X.mg "range" = none) (ha : PPE X a ta Ta) (na : starEach [a] X.env = (false, eval a X.env) :: starEach [] X.env := by rfl)
    (nb : starEach [.Call (.Name "range" q) [a] [] pos2] X.env = (false, eval (.Call (.Name "range" q) [a] [] pos2) X.env) :: starEach [] X.env := by rfl) :
    PPI X tg (.Call (.Name "reversed" p) [.Call (.Name "range" q) [a] [] pos2] [] pos) (iRevR (tRg1 ta)) (jRev Ta) := ⟨pi_revR hg hm (prg_1 hgr hmr ha.pe na) nb, fun G F H σ ρ Q R S hT k =>
  ha.snd G F H σ ρ _ _ S hT fun v d F1 H1 ρ1 u1 S1 r1 q1 => by
    cases r1 with
    | int m =>
      obtain ⟨n, rfl, hn, q⟩ := q1
      exact ⟨n, rfl, by omega, by omega, by omega, by omega, k _ _ F1 H1 ρ1 u1 S1 (itrep_down n) q⟩
    | _ => exact q1.elim⟩
end
end Pl
namespace Pl
open PySem PySem.Spec PyProof.Rows L2
variable [TJ]
section
variable {X : Cx} {e : Expr} {te : TE} {Te : TEp} {pos : Pos}
def pAdr (i : Nat) : TEp := fun ρ Q => ∃ (a : Addr) (xs : List D), ρ[i]? = some (some (.own a xs)) ∧ Q (.adr a) ρ
theorem ppe_adr (i : Nat) {x : Str} (hN : X.N[i]? = some x := by rfl) (hv : Vis X.env.scope x := by first | exact Or.inl rfl | exact Or.inr (Or.inl rfl) | exact Or.inr (Or.inr rfl)) (hd : (x == ("__debug__" : Str)) = false := by decide)
    (hcd : (x == ("__classdict__" : Str)) = false := by decide) : PPE X (.Name x pos) (tVar i) (pAdr i) := ⟨pe_var hN hv hd hcd, fun G F H σ ρ Q R S hT k => by
  obtain ⟨a, xs, e, q⟩ := hT
  exact ⟨.ref a, (S.own i a xs e).1, k _ _ F H ρ (.refl _ _) S (.adr a) q⟩⟩
def pAppendA (i : Nat) (js : List Nat) (Te : TEp) : TSp := fun P ρ => ∃ a : Addr, ρ[i]? = some (some (.val (.adr a))) ∧ (∃ j ∈ js, ∃ xs, ρ[j]? = some (some (.own a xs))) ∧ Te ρ fun y ρ1 => ∃ (j : Nat) (xs1 : List D), j ∈ js ∧ ρ1[j]? = some (some (.own a xs1)) ∧ xs1.length < sizeLine ∧ P.nx (ρ1.set j (some (.own a (xs1 ++ [y]))))
theorem pps_appendA (i : Nat) (js : List Nat) {x : Str} {p ap cp : Pos} (he : PPE X e te Te) (hN : X.N[i]? = some x := by rfl) (hv : Vis X.env.scope x := by first | exact Or.inl rfl | exact Or.inr (Or.inl rfl) | exact Or.inr (Or.inr rfl)) (hd : (x == ("__debug__" : Str)) = false := by decide)
    (hcd : (x == ("__classdict__" : Str)) = false := by decide)
    (hbase : attributeBase (.Name x p) "append" X.env (eval (.Name x p) X.env) = eval (.Name x p) X.env := by rfl)
    (hfew : ((backTo cp (starEach [e] X.env)).all (fun x => !x.1) && (backToKw cp (keywordEach [] X.env)).all (fun x => x.1.isSome)
      && decide ([e].length + ([] : List Keyword).length + (if ([] : List Keyword).isEmpty then 0 else 1) < 30)) = true := by rfl)
    (hline : (ap.endLine == cp.line) = true := by rfl) (hs : starEach [e] X.env = (false, eval e X.env) :: starEach [] X.env := by rfl)
    (hsw : swapsWith (.Call (.Attribute (.Name x p) "append" ap) [e] [] cp) none pos.line X.env = pure false := by rfl) :
    PPS X (.Expr (.Call (.Attribute (.Name x p) "append" ap) [e] [] cp) pos) (tDrop (tBM X.K "list" rAppend (tVar i) (tCons te tNil))) (pAppendA i js Te) := ⟨ps_expr (pe_bm PySem.F.plainAttrs_list PySem.F.slot_list_append PySem.F.type_list_append mt_append (pe_var hN hv hd hcd) (pa_cons he.pe pa_nil hs) hbase hfew hline hs rfl) hsw, fun G F H σ ρ P D S hT r => by
  obtain ⟨a, e0, ⟨j0, hj0, xs0, e00⟩, hT⟩ := hT
  obtain ⟨v, h1, r0⟩ := S.val i _ e0
  cases r0
  obtain ⟨_, _, _, vs0, h40, _⟩ := S.own j0 a xs0 e00
  refine ⟨.ref a, h1, .inl ⟨rfl, _, SqL.of h40⟩, he.snd G F H σ ρ _ _ S hT fun y dy F1 H1 ρ1 u1 S1 r1 q1 => ?_⟩
  obtain ⟨j, xs1, _, e1, hz, q⟩ := q1
  obtain ⟨g1, g2, g3, ws, g4, g5⟩ := S1.own j a xs1 e1
  exact ⟨a, ws, y, rfl, rfl, g4, by rw [g5.length]; exact hz, r.nx F1 _ _ _ u1 (S1.mut e1 (g5.append (.one r1))) q⟩⟩
end
abbrev TCs := Ro → (List Cell → Ro → Prop) → Prop
def CellOk (K : PySem.W.Frag) (G F H : Hp) (ρ : Ro) (v : V) (c : Cell) : Prop := match c with
  | .val d => Rep K F v d
  | .own p xs => v = .ref p ∧ F p = none ∧ G p = none ∧ NotOwn ρ p ∧ ∃ us, H p = some (.lst us) ∧ Reps K F us xs
  | .box _ => False
def CellsOk (K : PySem.W.Frag) (G F H : Hp) (ρ : Ro) : List V → List Cell → Prop
  | [], [] => True
  | v :: vs, c :: cs => CellOk K G F H ρ v c ∧ CellsOk K G F H ρ vs cs ∧ ∀ p xs, c = .own p xs → ∀ q ys, Cell.own q ys ∈ cs → q ≠ p
  | _, _ => False
def SndCs (K : PySem.W.Frag) (t : TA) (T : TCs) : Prop := ∀ (G F H : Hp) (σ : L2.St) (ρ : Ro) (Q : List Cell → Ro → Prop) (R : List V → Hp → Prop), Sim K G F H σ ρ → T ρ Q →
  (∀ vs cs F' H' ρ', Up G F F' → Sim K G F' H' σ ρ' → CellsOk K G F' H' ρ' vs cs → Q cs ρ' → R vs H') → t σ H R
structure PPCs (X : Cx) (es : List Expr) (t : TA) (T : TCs) : Prop where
  pa : PA X es t
  snd : SndCs X.K t T
theorem CellsOk.gone {K : PySem.W.Frag} {G F H : Hp} {ρ : Ro} {p : Addr} {o : HO} : ∀ {vs : List V} {cs : List Cell}, CellsOk K (upd G p o) F H ρ vs cs → ∀ q ys, Cell.own q ys ∈ cs → q ≠ p
  | [], [], _, q, ys, h => by simp at h
  | v :: vs, c :: cs, g, q, ys, h => by
    rcases List.mem_cons.mp h with e | h
    · subst e
      intro z
      have := g.1.2.2.1
      rw [z, upd_same] at this
      cases this
    · exact CellsOk.gone g.2.1 q ys h
  | [], _ :: _, g, _, _, _ => g.elim
  | _ :: _, [], g, _, _, _ => g.elim
theorem CellsOk.less {K : PySem.W.Frag} {G F H : Hp} {ρ : Ro} {p : Addr} {o : HO} : ∀ {vs : List V} {cs : List Cell}, CellsOk K (upd G p o) F H ρ vs cs → CellsOk K G F H ρ vs cs
  | [], [], _ => trivial
  | v :: vs, c :: cs, g => by
    refine ⟨?_, CellsOk.less g.2.1, g.2.2⟩
    cases c with
    | val d => exact g.1
    | own q xs =>
      obtain ⟨h1, h2, h3, h4⟩ := g.1
      have n : q ≠ p := fun z => by rw [z, upd_same] at h3; cases h3
      exact ⟨h1, h2, by rw [upd_ne n] at h3; exact h3, h4⟩
    | box s => exact g.1
  | [], _ :: _, g => g.elim
  | _ :: _, [], g => g.elim
section
variable {X : Cx} {e : Expr} {es : List Expr} {te : TE} {t : TA} {T : TCs} {Tc : TCp} {pos : Pos}
def pNilC : TCs := fun ρ Q => Q [] ρ
def pConsC (Tc : TCp) (T : TCs) : TCs := fun ρ Q => Tc ρ fun c ρ1 => match c with
  | .val d => T ρ1 fun cs ρ2 => Q (.val d :: cs) ρ2
  | .own p xs => T ρ1 fun cs ρ2 => Q (.own p xs :: cs) ρ2
  | .box _ => False
theorem ppcs_nil : PPCs X [] tNil pNilC := ⟨pa_nil, fun G F H σ ρ Q R S hT k => k [] [] F H ρ (.refl _ _) S trivial hT⟩
theorem ppcs_cons (h1 : PPC X e te Tc) (h2 : PPCs X es t T) (hs : starEach (e :: es) X.env = (false, eval e X.env) :: starEach es X.env := by rfl) : PPCs X (e :: es) (tCons te t) (pConsC Tc T) := ⟨pa_cons h1.pe h2.pa hs, fun G F H σ ρ Q R S hT k =>
  h1.snd G F H σ ρ _ _ S hT fun v c F1 H1 ρ1 u1 S1 q1 => by
    cases c with
    | val d =>
      have r := S1.lastVal
      refine h2.snd G F1 H1 σ ρ1 _ _ S1.drop q1 fun vs cs F2 H2 ρ2 u2 S2 o2 q2 => k (v :: vs) (.val d :: cs) F2 H2 ρ2 (u1.trans u2) S2 ⟨r.mono u2.ex, o2, fun p xs z => by cases z⟩ q2
    | own p xs =>
      obtain ⟨rfl, h2', h3, h4, us, h5, h6⟩ := S1.lastOwn
      have S0 := S1.drop
      have SG : Sim X.K (upd G p (.lst us)) F1 H1 σ ρ1 := by
        refine ⟨S0.hF, S0.hG.guard h5, S0.len, S0.val, fun i b ys q => ?_, S0.ne, S0.bx.guard h4.2⟩
        · obtain ⟨g1, g2, g3, g4⟩ := S0.own i b ys q
          have n : b ≠ p := fun z => by subst z; exact h4.1 i ys q
          exact ⟨g1, g2, by rw [upd_ne n]; exact g3, g4⟩
      refine h2.snd (upd G p (.lst us)) F1 H1 σ ρ1 _ _ SG q1 fun vs cs F2 H2 ρ2 u2 S2 o2 q2 => ?_
      have hp2 : H2 p = some (.lst us) := S2.hG p _ upd_same
      have fp2 : F2 p = none := u2.isNone h2' upd_same
      have np2 : NotOwn ρ2 p := ⟨fun i ys q => (by
        have := (S2.own i p ys q).2.2.1
        rw [upd_same] at this; cases this), S2.bx.notG upd_same⟩
      have up2 : Up G F1 F2 := u2.less (same_new h3)
      have SF : Sim X.K G F2 H2 σ ρ2 := by
        refine ⟨S2.hF, S2.hG.less (same_new h3), S2.len, S2.val, fun i b ys q => ?_, S2.ne, S2.bx.unguard (same_new h3)⟩
        obtain ⟨g1, g2, g3, g4⟩ := S2.own i b ys q
        have n : b ≠ p := fun z => by rw [z, upd_same] at g3; cases g3
        exact ⟨g1, g2, by rw [upd_ne n] at g3; exact g3, g4⟩
      refine k (.ref p :: vs) (.own p xs :: cs) F2 H2 ρ2 (u1.trans up2) SF ⟨⟨rfl, fp2, h3, np2, us, hp2, h6.mono u2.ex⟩, o2.less, fun q xs' z w ys hw => ?_⟩ q2
      cases z
      exact o2.gone w ys hw
    | box s => exact q1.elim⟩
theorem Sim.put {K : PySem.W.Frag} {G F H : Hp} {σ : L2.St} {ρ : Ro} {v : V} {c : Cell} (S : Sim K G F H σ ρ) (i : Nat) (h : CellOk K G F H ρ v c) : Sim K G F H (σ.set i (some v)) (ρ.set i (some c)) := by
  cases c with
  | val d => exact S.setVal i h
  | own p xs =>
    obtain ⟨rfl, h2, h3, h4, us, h5, h6⟩ := h
    exact S.setOwn i h5 h2 h3 h4 h6
  | box s => exact h.elim
theorem NotOwn.put {ρ : Ro} {p : Addr} {c : Cell} {i : Nat} (h : NotOwn ρ p) (hb : ∀ t, c ≠ .box t) (hc : ∀ q ys, c = .own q ys → p ≠ q) : NotOwn (ρ.set i (some c)) p := ⟨fun j ys e => (by
  by_cases hj : i = j
  · subst hj
    by_cases hi : i < ρ.length
    · rw [List.getElem?_set_self hi] at e
      cases e
      exact hc _ _ rfl rfl
    · rw [List.getElem?_eq_none (by simpa using hi)] at e; cases e
  · rw [List.getElem?_set_ne hj] at e; exact h.1 j ys e), fun m => h.2 (set_inbox (fun t z => hb t (Option.some.inj z)) m)⟩
theorem CellOk.put {K : PySem.W.Frag} {G F H : Hp} {ρ : Ro} {v : V} {c c' : Cell} {i : Nat} (h : CellOk K G F H ρ v c) (hb : ∀ t, c' ≠ .box t) (hc : ∀ p xs, c' = .own p xs → ∀ q ys, c = .own q ys → q ≠ p) : CellOk K G F H (ρ.set i (some c')) v c := by
  cases c with
  | val d => exact h
  | own p xs =>
    obtain ⟨h1, h2, h3, h4, h5⟩ := h
    exact ⟨h1, h2, h3, h4.put hb fun q ys e => hc q ys e p xs rfl, h5⟩
  | box s => exact h.elim
theorem CellOk.noBox {K : PySem.W.Frag} {G F H : Hp} {ρ : Ro} {v : V} {c : Cell} (h : CellOk K G F H ρ v c) : ∀ t, c ≠ .box t := fun t e => by subst e; exact h
theorem CellsOk.len {K : PySem.W.Frag} {G F H : Hp} {ρ : Ro} : ∀ {vs : List V} {cs : List Cell}, CellsOk K G F H ρ vs cs → vs.length = cs.length
  | [], [], _ => rfl
  | _ :: _, _ :: _, h => congrArg (· + 1) (CellsOk.len h.2.1)
  | [], _ :: _, h => h.elim
  | _ :: _, [], h => h.elim
theorem two_cells {f : Cell → Cell → Prop} : ∀ {cs : List Cell}, (match cs with | [x, y] => f x y | _ => False) → cs.length = 2
  | [], h => h.elim
  | [_], h => h.elim
  | [_, _], _ => rfl
  | _ :: _ :: _ :: _, h => h.elim
theorem three_cells {f : Cell → Cell → Cell → Prop} : ∀ {cs : List Cell}, (match cs with | [x, y, z] => f x y z | _ => False) → cs.length = 3
  | [], h => h.elim
  | [_], h => h.elim
  | [_, _], h => h.elim
  | [_, _, _], _ => rfl
  | _ :: _ :: _ :: _ :: _, h => h.elim
theorem len_two {α : Type} : ∀ {l : List α}, l.length = 2 → ∃ a b, l = [a, b]
  | [a, b], _ => ⟨a, b, rfl⟩
theorem len_three {α : Type} : ∀ {l : List α}, l.length = 3 → ∃ a b c, l = [a, b, c]
  | [a, b, c], _ => ⟨a, b, c, rfl⟩
def pParC (i j : Nat) (T : TCs) : TSp := fun P ρ => T ρ fun cs ρ1 => match cs with | [x, y] => P.nx ((ρ1.set i (some x)).set j (some y)) | _ => False
def pParC3 (i j l : Nat) (T : TCs) : TSp := fun P ρ => T ρ fun cs ρ1 => match cs with | [x, y, z] => P.nx (((ρ1.set i (some x)).set j (some y)).set l (some z)) | _ => False
theorem pps_parC3 {i j l : Nat} {x y z : Str} {a b c : Expr} {ta : TA} {px py pz pt : Pos} {kt k2 pt2} (hc : X.calm = true) (hN : X.N.Nodup) (ha : PPCs X [a, b, c] ta T) (hi : X.N[i]? = some x := by rfl) (hj : X.N[j]? = some y := by rfl) (hl : X.N[l]? = some z := by rfl) (hij : i ≠ j := by decide) (hil : i ≠ l := by decide) (hjl : j ≠ l := by decide)
    (hx : X.env.scope.names.lookup x = some .local := by rfl) (hy : X.env.scope.names.lookup y = some .local := by rfl) (hz : X.env.scope.names.lookup z = some .local := by rfl)
    (hw : swappedStores [.Tuple [.Name x px, .Name y py, .Name z pz] kt pt] (.Tuple [a, b, c] k2 pt2) X.env = pure (some [x, y, z]) := by rfl)
    (hs : swapsWithSole [.Tuple [.Name x px, .Name y py, .Name z pz] kt pt] (.Tuple [a, b, c] k2 pt2) pos.line X.env = pure false := by rfl) :
    PPS X (.Assign [.Tuple [.Name x px, .Name y py, .Name z pz] kt pt] (.Tuple [a, b, c] k2 pt2) pos) (tPar3 i j l ta) (pParC3 i j l T) := ⟨ps_par3 hc hN hi hj hl hij hil hjl hx hy hz ha.pa hw hs, fun G F H σ ρ P D S hT r =>
  ha.snd G F H σ ρ _ _ S hT fun vs cs F' H' ρ' u S' o q => by
    have l3 := three_cells q
    obtain ⟨c1, c2, c3, rfl⟩ := len_three l3
    obtain ⟨v1, v2, v3, rfl⟩ := len_three (o.len.trans l3)
    refine ⟨v1, v2, v3, rfl, r.nx F' H' _ _ u (((S'.put i o.1).put j (o.2.1.1.put o.1.noBox fun p xs e w ys e2 => ?_)).put l ((o.2.1.2.1.1.put o.1.noBox fun p xs e w ys e2 => ?_).put o.2.1.1.noBox fun p xs e w ys e2 => ?_)) q⟩
    · subst e2; exact o.2.2 p xs e w ys (by simp)
    · subst e2; exact o.2.2 p xs e w ys (by simp)
    · subst e2; exact o.2.1.2.2 p xs e w ys (by simp)⟩
end
end Pl
namespace Pl
open PySem PySem.Spec PyProof.Rows L2
variable [TJ]
section
variable {X : Cx} {a b : Expr} {ta tb : TE} {Ta Tb : TEp} {pos : Pos}
def rMulS : R2 := fun x y H Q => ∃ i j, x = .str i ∧ y = .int j ∧ MulOk i j ∧ Q (.str (Txt.mul i j)) H
theorem op_mulS : OpR X (binaryOp .Mult) rMulS := by
  intro pins s σ H x y v u Q I rx ry h
  obtain ⟨i, j, rfl, rfl, hz, q⟩ := h
  obtain ⟨t, rfl⟩ := rx
  obtain ⟨t', rfl⟩ := ry
  exact PySem.SB.mul hz fun t' k => ⟨.str (Txt.mul i j), H, I.tok _, ⟨_, rfl⟩, q⟩
def fMulS : F2 := fun x y Q => match x, y with
  | .str i, .int j => MulOk i j ∧ Q (.str (Txt.mul i j))
  | _, _ => False
theorem ppe_mulS (ha : PPE X a ta Ta) (hb : PPE X b tb Tb) : PPE X (.BinOp a .Mult b pos) (tOp rMulS ta tb) (pOp fMulS Ta Tb) := ppe_op op_mulS (fun F H x y dx dy Q R hs rx ry hf k => by
  cases rx with
  | str i =>
    cases ry with
    | int j => exact ⟨i, j, rfl, rfl, hf.1, k _ _ _ _ (.old (.str _)) hf.2⟩
    | _ => exact hf.elim
  | _ => exact hf.elim) ha hb
theorem mulOk_small {x : Str} {n : Int} (hx : x.length ≤ 10) (h0 : 0 ≤ n) (h1 : n ≤ 1000) : MulOk x n := by
  have hm : (x.length : Int) * n ≤ 10 * 1000 := Int.mul_le_mul (by omega) h1 h0 (by decide)
  refine ⟨by simp; omega, fun h _ => ?_, fun h _ => ?_⟩
  · have : (x.length : Int) ≤ (2 ^ 63 - 1) / n := Int.le_ediv_of_mul_le (by omega) (by omega)
    omega
  · unfold Builtin.Str.tooLong
    have h2 : x.length * n.toNat ≤ 10 * 1000 := Nat.mul_le_mul hx (by omega)
    rw [sizeLine_eq]
    simp
    omega
end
end Pl
namespace Pl
open PySem PySem.Spec PyProof.Rows L2
variable [TJ]
section
variable {X : Cx} {a b : Expr} {ta tb : TE} {Ta Tb : TEp} {pos : Pos}
def pCatO (Ta Tb : TEp) : TCp := fun ρ Q => Ta ρ fun x ρ1 => Tb ρ1 fun y ρ2 => match x, y with
  | .lst xs, .lst ys => xs.length + ys.length ≤ sizeLine ∧ ∀ p, Q (.own p (xs ++ ys)) ρ2
  | _, _ => False
theorem ppc_cat (ha : PPE X a ta Ta) (hb : PPE X b tb Tb) : PPC X (.BinOp a .Add b pos) (tOp (rAddA X.K) ta tb) (pCatO Ta Tb) := ⟨(ppe_add ha hb).pe, fun G F H σ ρ Q R S hT k =>
  ha.snd G F H σ ρ _ _ S hT fun v d F1 H1 ρ1 u1 S1 r1 q1 => hb.snd G F1 H1 σ ρ1 _ _ S1 q1 fun w e F2 H2 ρ2 u2 S2 r2 q2 => by
    have r1' := r1.mono u2.ex
    cases r1' with
    | lst h1 s1 =>
      cases r2 with
      | lst h2 s2 => exact .inr (.inl ⟨_, _, _, _, rfl, rfl, S2.hF _ _ h1, S2.hF _ _ h2, by rw [s1.length, s2.length]; exact q2.1, fun p hp => k _ _ _ _ ρ2 (u1.trans u2) (S2.newOwn hp (s1.append s2)) (q2.2 p)⟩)
      | _ => exact q2.elim
    | _ => exact q2.elim⟩
end
end Pl
namespace Pl
open PySem PySem.Spec PyProof.Rows L2
variable [TJ]
theorem Reps.dropLast {K : PySem.W.Frag} {F : Hp} : ∀ {vs : List V} {ds : List D}, Reps K F vs ds → Reps K F vs.dropLast ds.dropLast
  | _, _, .nil => .nil
  | _, _, .cons _ .nil => .nil
  | _, _, .cons r (.cons r2 t) => .cons r (Reps.dropLast (.cons r2 t))
section
variable {X : Cx}
def pPop0 (i : Nat) : TEp := fun ρ Q => match ρ[i]? with
  | some (some (.own a xs)) => ∃ v, xs[xs.length - 1]? = some v ∧ Q v (ρ.set i (some (.own a xs.dropLast)))
  | _ => False
theorem ppe_pop0 (i : Nat) {x : Str} {p ap cp : Pos} (hN : X.N[i]? = some x := by rfl) (hv : Vis X.env.scope x := by first | exact Or.inl rfl | exact Or.inr (Or.inl rfl) | exact Or.inr (Or.inr rfl)) (hd : (x == ("__debug__" : Str)) = false := by decide)
    (hcd : (x == ("__classdict__" : Str)) = false := by decide)
    (hbase : attributeBase (.Name x p) "pop" X.env (eval (.Name x p) X.env) = eval (.Name x p) X.env := by rfl)
    (hline : (ap.endLine == cp.line) = true := by rfl) :
    PPE X (.Call (.Attribute (.Name x p) "pop" ap) [] [] cp) (tBM0 X.K "list" rPop (tVar i)) (pPop0 i) := ⟨pe_bm0 PySem.F.plainAttrs_list PySem.F.slot_list_pop PySem.F.type_list_pop mt_pop (pe_var hN hv hd hcd) hbase hline, fun G F H σ ρ Q R S hT k => by
  unfold pPop0 at hT
  split at hT
  · rename_i a xs e0
    obtain ⟨v, ev, q⟩ := hT
    obtain ⟨h1, h2, h3, vs, h4, h5⟩ := S.own i a xs e0
    obtain ⟨w, hw, rw'⟩ := h5.get ev
    refine ⟨.ref a, h1, .inl ⟨rfl, _, SqL.of h4⟩, a, vs, w, rfl, rfl, h4, by rw [h5.length]; exact hw, k w v F _ _ (.refl _ _) (S.mut e0 h5.dropLast) rw' q⟩
  · exact hT.elim⟩
end
section
variable {X : Cx} {e : Expr} {es : List Expr} {te : TE} {Te : TEp} {t : TA} {T : TAp} {p : Pos}
def pStar (Te : TEp) (T : TAp) : TAp := fun ρ Q => Te ρ fun d ρ1 => asSeq d fun xs => T ρ1 fun ys ρ2 => Q (xs ++ ys) ρ2
theorem ppa_star (he : PPE X e te Te) (hr : PPA X es t T) (hs : starEach (.Starred e p :: es) X.env = (true, eval e X.env) :: starEach es X.env := by rfl) : PPA X (.Starred e p :: es) (StX.tStar X.K te t) (pStar Te T) := ⟨StX.pa_star he.pe hr.pa hs, fun G F H σ ρ Q R S hT k =>
  he.snd G F H σ ρ _ _ S hT fun v d F1 H1 ρ1 u1 S1 r1 q1 => by
    obtain ⟨a, b, vs, ds, rfl, e1, rs, q⟩ := r1.seq q1
    refine ⟨a, vs, rfl, ?_, hr.snd G F1 H1 σ ρ1 _ _ S1 q fun ws es2 F2 H2 ρ2 u2 S2 r2 q2 => k (vs ++ ws) (ds ++ es2) F2 H2 ρ2 (u1.trans u2) S2 ((rs.mono u2.ex).append r2) q2⟩
    cases b with
    | true => exact .inr (SqL.of (S1.hF _ _ e1))
    | false => exact .inl (SqT.of (S1.hF _ _ e1))⟩
end
end Pl
namespace Pl
def cutFrom (s p : Int) : List Int → List Int
  | [] => []
  | h :: r => min h (p + s) :: cutFrom s (min h (p + s)) r
def cutOn (s : Int) : List Int → List Int
  | [] => []
  | x :: r => x :: cutFrom s x r
def cutBack (s : Int) : List Int → List Int
  | [] => []
  | x :: r => match cutBack s r with
    | [] => [x]
    | b :: t => min x (b + s) :: b :: t
def cutTo (s : Int) (ns : List Int) : List Int := (cutOn s (cutOn s ns).reverse).reverse
def fillTo (s : Int) (ns : List Int) : List Int := (cutTo s (ns.map (fun x => -x))).map (fun x => -x)
def UpL (s : Int) : List Int → Prop
  | x :: y :: r => y ≤ x + s ∧ UpL s (y :: r)
  | _ => True
def UpR (s : Int) : List Int → Prop
  | x :: y :: r => x ≤ y + s ∧ UpR s (y :: r)
  | _ => True
def Gentle (s : Int) (l : List Int) : Prop := UpL s l ∧ UpR s l
def Lq : List Int → List Int → Prop
  | x :: xs, y :: ys => x ≤ y ∧ Lq xs ys
  | [], [] => True
  | _, _ => False
theorem Lq.refl : ∀ l : List Int, Lq l l
  | [] => trivial
  | x :: l => ⟨Int.le_refl x, Lq.refl l⟩
theorem Lq.trans : ∀ {a b c : List Int}, Lq a b → Lq b c → Lq a c
  | [], [], [], _, _ => trivial
  | x :: a, y :: b, z :: c, h, g => ⟨Int.le_trans h.1 g.1, Lq.trans h.2 g.2⟩
  | [], [], _ :: _, _, g => g.elim
  | [], _ :: _, _, h, _ => h.elim
  | _ :: _, [], _, h, _ => h.elim
  | _ :: _, _ :: _, [], _, g => g.elim
theorem Lq.antisymm : ∀ {a b : List Int}, Lq a b → Lq b a → a = b
  | [], [], _, _ => rfl
  | x :: a, y :: b, h, g => by rw [Int.le_antisymm h.1 g.1, Lq.antisymm h.2 g.2]
  | [], _ :: _, h, _ => h.elim
  | _ :: _, [], h, _ => h.elim
theorem Lq.length : ∀ {a b : List Int}, Lq a b → a.length = b.length
  | [], [], _ => rfl
  | _ :: a, _ :: b, h => by simp [Lq.length h.2]
  | [], _ :: _, h => h.elim
  | _ :: _, [], h => h.elim
theorem Lq.neg : ∀ {a b : List Int}, Lq a b → Lq (b.map (fun x => -x)) (a.map (fun x => -x))
  | [], [], _ => trivial
  | x :: a, y :: b, h => ⟨by show -y ≤ -x; have := h.1; omega, Lq.neg h.2⟩
  | [], _ :: _, h => h.elim
  | _ :: _, [], h => h.elim
theorem neg_neg_map (l : List Int) : (l.map (fun x => -x)).map (fun x => -x) = l := by
  rw [List.map_map]
  have : ((fun x : Int => -x) ∘ fun x => -x) = id := by funext x; simp
  rw [this, List.map_id]
theorem upL_neg {s : Int} : ∀ {l : List Int}, UpL s l → UpR s (l.map (fun x => -x))
  | [], _ => trivial
  | [_], _ => trivial
  | x :: y :: r, h => ⟨by show -x ≤ -y + s; have := h.1; omega, upL_neg (l := y :: r) h.2⟩
theorem upR_neg {s : Int} : ∀ {l : List Int}, UpR s l → UpL s (l.map (fun x => -x))
  | [], _ => trivial
  | [_], _ => trivial
  | x :: y :: r, h => ⟨by show -y ≤ -x + s; have := h.1; omega, upR_neg (l := y :: r) h.2⟩
theorem Gentle.neg {s : Int} {l : List Int} (h : Gentle s l) : Gentle s (l.map (fun x => -x)) := ⟨upR_neg h.2, upL_neg h.1⟩
theorem cutFrom_snoc (s : Int) (x : Int) : ∀ (p : Int) (l : List Int), cutFrom s p (l ++ [x]) = cutFrom s p l ++ [min x ((cutFrom s p l).getLastD p + s)]
  | p, [] => rfl
  | p, h :: r => by
    show min h (p + s) :: cutFrom s (min h (p + s)) (r ++ [x]) = min h (p + s) :: (cutFrom s (min h (p + s)) r ++ [min x ((min h (p + s) :: cutFrom s (min h (p + s)) r).getLastD p + s)])
    rw [cutFrom_snoc s x _ r, List.getLastD_cons]
theorem cutOn_snoc (s x y : Int) (l : List Int) : cutOn s ((y :: l) ++ [x]) = cutOn s (y :: l) ++ [min x ((cutOn s (y :: l)).getLastD 0 + s)] := by
  show y :: cutFrom s y (l ++ [x]) = y :: (cutFrom s y l ++ [min x ((y :: cutFrom s y l).getLastD 0 + s)])
  rw [cutFrom_snoc, List.getLastD_cons]
theorem cutBack_ne {s : Int} {x : Int} {r : List Int} : cutBack s (x :: r) ≠ [] := by
  unfold cutBack
  split <;> simp
theorem getLastD_rev {α : Type} (d b : α) (t : List α) : ((b :: t).reverse).getLastD d = b := by
  rw [List.reverse_cons, List.getLastD_concat]
theorem cutOn_rev (s : Int) : ∀ l : List Int, cutOn s l.reverse = (cutBack s l).reverse
  | [] => rfl
  | [x] => rfl
  | x :: y :: r => by
    have ih := cutOn_rev s (y :: r)
    have e : (x :: y :: r).reverse = (y :: r).reverse ++ [x] := List.reverse_cons
    rw [e]
    cases h : (y :: r).reverse with
    | nil => simp at h
    | cons z t =>
      rw [cutOn_snoc, ← h, ih]
      show _ = (match cutBack s (y :: r) with
        | [] => [x]
        | b :: t => min x (b + s) :: b :: t).reverse
      cases hb : cutBack s (y :: r) with
      | nil => exact absurd hb cutBack_ne
      | cons b t' =>
        rw [getLastD_rev]
        show (b :: t').reverse ++ [min x (b + s)] = (min x (b + s) :: b :: t').reverse
        rw [List.reverse_cons (a := min x (b + s))]
theorem cutTo_eq (s : Int) (l : List Int) : cutTo s l = cutBack s (cutOn s l) := by
  unfold cutTo
  rw [cutOn_rev, List.reverse_reverse]
theorem cutFrom_le (s : Int) : ∀ (p : Int) (l : List Int), Lq (cutFrom s p l) l
  | _, [] => trivial
  | p, h :: r => ⟨Int.min_le_left _ _, cutFrom_le s _ r⟩
theorem cutOn_le (s : Int) : ∀ l : List Int, Lq (cutOn s l) l
  | [] => trivial
  | x :: r => ⟨Int.le_refl x, cutFrom_le s x r⟩
theorem cutFrom_upL (s : Int) : ∀ (p : Int) (l : List Int), UpL s (p :: cutFrom s p l)
  | _, [] => trivial
  | p, h :: r => ⟨Int.min_le_right _ _, cutFrom_upL s _ r⟩
theorem cutOn_upL (s : Int) : ∀ l : List Int, UpL s (cutOn s l)
  | [] => trivial
  | x :: r => cutFrom_upL s x r
theorem cutBack_le (s : Int) : ∀ l : List Int, Lq (cutBack s l) l
  | [] => trivial
  | x :: r => by
    have ih := cutBack_le s r
    unfold cutBack
    cases hb : cutBack s r with
    | nil => rw [hb] at ih; cases r with
      | nil => exact ⟨Int.le_refl x, trivial⟩
      | cons _ _ => exact ih.elim
    | cons b t => rw [hb] at ih; exact ⟨Int.min_le_left _ _, ih⟩
theorem cutBack_upR (s : Int) : ∀ l : List Int, UpR s (cutBack s l)
  | [] => trivial
  | x :: r => by
    have ih := cutBack_upR s r
    unfold cutBack
    cases hb : cutBack s r with
    | nil => exact trivial
    | cons b t => rw [hb] at ih; exact ⟨Int.min_le_right _ _, ih⟩
theorem cutBack_upL {s : Int} (h0 : 0 ≤ s) : ∀ l : List Int, UpL s l → UpL s (cutBack s l)
  | [], _ => trivial
  | [x], _ => trivial
  | x :: y :: r, h => by
    have ih := cutBack_upL h0 (y :: r) h.2
    have le := cutBack_le s (y :: r)
    show UpL s (match cutBack s (y :: r) with | [] => [x] | b :: t => min x (b + s) :: b :: t)
    cases hb : cutBack s (y :: r) with
    | nil => exact trivial
    | cons b t =>
      rw [hb] at ih le
      have h1 := h.1
      have h2 : b ≤ y := le.1
      refine ⟨?_, ih⟩
      omega
theorem cutFrom_max {s : Int} : ∀ {p q : Int} {b l : List Int}, q ≤ p → UpL s (q :: b) → Lq b l → Lq b (cutFrom s p l)
  | _, _, [], [], _, _, _ => trivial
  | p, q, x :: b, h :: r, hq, hu, hl => by
    have h1 := hu.1
    have h2 := hl.1
    have h3 : x ≤ min h (p + s) := by omega
    exact ⟨h3, cutFrom_max h3 hu.2 hl.2⟩
  | _, _, [], _ :: _, _, _, h => h.elim
  | _, _, _ :: _, [], _, _, h => h.elim
theorem cutOn_max {s : Int} : ∀ {b l : List Int}, UpL s b → Lq b l → Lq b (cutOn s l)
  | [], [], _, _ => trivial
  | x :: b, y :: l, hu, hl => ⟨hl.1, cutFrom_max hl.1 hu hl.2⟩
  | [], _ :: _, _, h => h.elim
  | _ :: _, [], _, h => h.elim
theorem cutBack_max {s : Int} : ∀ {b l : List Int}, UpR s b → Lq b l → Lq b (cutBack s l)
  | [], [], _, _ => trivial
  | [x], [y], _, hl => hl
  | x :: z :: b, y :: w :: l, hu, hl => by
    have ih := cutBack_max (b := z :: b) (l := w :: l) hu.2 hl.2
    show Lq (x :: z :: b) (match cutBack s (w :: l) with | [] => [y] | b :: t => min y (b + s) :: b :: t)
    cases hb : cutBack s (w :: l) with
    | nil => exact absurd hb cutBack_ne
    | cons c t =>
      rw [hb] at ih
      have h1 := hu.1
      have h2 := hl.1
      have h3 := ih.1
      exact ⟨by omega, ih⟩
  | [_], _ :: _ :: _, _, h => h.2.elim
  | _ :: _ :: _, [_], _, h => h.2.elim
  | [], _ :: _, _, h => h.elim
  | _ :: _, [], _, h => h.elim
theorem cutTo_gentle {s : Int} (h0 : 0 ≤ s) (l : List Int) : Gentle s (cutTo s l) := by
  rw [cutTo_eq]
  exact ⟨cutBack_upL h0 _ (cutOn_upL s l), cutBack_upR s _⟩
theorem cutTo_le (s : Int) (l : List Int) : Lq (cutTo s l) l := by
  rw [cutTo_eq]
  exact (cutBack_le s _).trans (cutOn_le s l)
theorem cutTo_max {s : Int} {b l : List Int} (hb : Gentle s b) (h : Lq b l) : Lq b (cutTo s l) := by
  rw [cutTo_eq]
  exact cutBack_max hb.2 (cutOn_max hb.1 h)
theorem fillTo_gentle {s : Int} (h0 : 0 ≤ s) (l : List Int) : Gentle s (fillTo s l) := (cutTo_gentle h0 _).neg
theorem fillTo_ge (s : Int) (l : List Int) : Lq l (fillTo s l) := by
  have := (cutTo_le s (l.map (fun x => -x))).neg
  rw [neg_neg_map] at this
  exact this
theorem fillTo_min {s : Int} {b l : List Int} (hb : Gentle s b) (h : Lq l b) : Lq (fillTo s l) b := by
  have := (cutTo_max hb.neg h.neg).neg
  rw [neg_neg_map] at this
  exact this
theorem cutTo_idle {s : Int} (h0 : 0 ≤ s) {l : List Int} : cutTo s l = l ↔ Gentle s l :=
  ⟨fun h => h ▸ cutTo_gentle h0 l, fun h => (cutTo_le s l).antisymm (cutTo_max h (Lq.refl l))⟩
theorem fillTo_idle {s : Int} (h0 : 0 ≤ s) {l : List Int} : fillTo s l = l ↔ Gentle s l :=
  ⟨fun h => h ▸ fillTo_gentle h0 l, fun h => (fillTo_min h (Lq.refl l)).antisymm (fillTo_ge s l)⟩
end Pl
namespace Pl
def aI (i : Int) : Int := if i < 0 then -i else i
def reach (s : Int) (l : List Int) (i : Int) : List Int := (List.range l.length).map fun (j : Nat) => l.getD j 0 + s * aI (i - (j : Int))
def reachF (s : Int) (l : List Int) (i : Int) : List Int := (List.range l.length).map fun (j : Nat) => l.getD j 0 - s * aI (i - (j : Int))
end Pl
namespace Pl
theorem UpL.mono {s t : Int} (h : s ≤ t) : ∀ {l : List Int}, UpL s l → UpL t l
  | [], _ => trivial
  | [_], _ => trivial
  | x :: y :: r, g => ⟨by have := g.1; omega, UpL.mono h g.2⟩
theorem UpR.mono {s t : Int} (h : s ≤ t) : ∀ {l : List Int}, UpR s l → UpR t l
  | [], _ => trivial
  | [_], _ => trivial
  | x :: y :: r, g => ⟨by have := g.1; omega, UpR.mono h g.2⟩
theorem Gentle.mono {s t : Int} (h : s ≤ t) {l : List Int} (g : Gentle s l) : Gentle t l := ⟨g.1.mono h, g.2.mono h⟩
theorem cutTo_twice {s t : Int} (hs : 0 ≤ s) (ht : 0 ≤ t) (l : List Int) : cutTo t (cutTo s l) = cutTo (min s t) l := by
  rcases Int.le_total s t with h | h
  · rw [show min s t = s by omega]
    exact (cutTo_idle ht).mpr ((cutTo_gentle hs l).mono h)
  · rw [show min s t = t by omega]
    refine Lq.antisymm (cutTo_max (cutTo_gentle ht _) ((cutTo_le t _).trans (cutTo_le s l))) ?_
    exact cutTo_max (cutTo_gentle ht l) (cutTo_max ((cutTo_gentle ht l).mono h) (cutTo_le t l))
theorem fillTo_neg (s : Int) (l : List Int) : fillTo s (l.map (fun x => -x)) = (cutTo s l).map (fun x => -x) := by
  unfold fillTo; rw [neg_neg_map]
theorem fillTo_twice {s t : Int} (hs : 0 ≤ s) (ht : 0 ≤ t) (l : List Int) : fillTo t (fillTo s l) = fillTo (min s t) l := by
  show fillTo t ((cutTo s (l.map (fun x => -x))).map (fun x => -x)) = _
  rw [fillTo_neg, cutTo_twice hs ht]; rfl
theorem upL_append {s x y : Int} : ∀ {a b : List Int}, UpL s (a ++ [x]) → UpL s (y :: b) → y ≤ x + s → UpL s (a ++ x :: y :: b)
  | [], _, _, h2, h => ⟨h, h2⟩
  | [a], _, h1, h2, h => ⟨h1.1, h, h2⟩
  | a :: c :: l, _, h1, h2, h => ⟨h1.1, upL_append (a := c :: l) h1.2 h2 h⟩
theorem upR_append {s x y : Int} : ∀ {a b : List Int}, UpR s (a ++ [x]) → UpR s (y :: b) → x ≤ y + s → UpR s (a ++ x :: y :: b)
  | [], _, _, h2, h => ⟨h, h2⟩
  | [a], _, h1, h2, h => ⟨h1.1, h, h2⟩
  | a :: c :: l, _, h1, h2, h => ⟨h1.1, upR_append (a := c :: l) h1.2 h2 h⟩
theorem upL_reverse {s : Int} : ∀ {l : List Int}, UpL s l → UpR s l.reverse
  | [], _ => trivial
  | [_], _ => trivial
  | x :: y :: r, h => by
    have ih := upL_reverse (l := y :: r) h.2
    rw [List.reverse_cons] at ih ⊢
    rw [List.reverse_cons, List.append_assoc]
    exact upR_append ih trivial h.1
theorem upR_reverse {s : Int} : ∀ {l : List Int}, UpR s l → UpL s l.reverse
  | [], _ => trivial
  | [_], _ => trivial
  | x :: y :: r, h => by
    have ih := upR_reverse (l := y :: r) h.2
    rw [List.reverse_cons] at ih ⊢
    rw [List.reverse_cons, List.append_assoc]
    exact upL_append ih trivial h.1
theorem Gentle.reverse {s : Int} {l : List Int} (h : Gentle s l) : Gentle s l.reverse := ⟨upR_reverse h.2, upL_reverse h.1⟩
end Pl
namespace Pl
open PySem PySem.Spec PyProof.Rows L2
abbrev N__law_cell_at : List Str := [("_law_script" : Str), ("_law_k" : Str)]
def T__law_cell_at : TSp :=
  (pSeq (pIfS (pTest (pOp fLt (pVar 1) (pLenO 0)))
    (pRet (pVal (pIxO 0 (pVar 1))))
    pNext)
    (pRet (pVal (pC (.int 0)))))
abbrev N__law_box : List Str := [("_law_script" : Str), ("_law_k" : Str), ("_law_cell" : Str)]
def T__law_box (g__law_cell_at : FA) : TSp :=
  (pSeq (pSet 2 (pCallA 2 g__law_cell_at (pCons (pVar 0) (pCons (pVar 1) pNil))))
    (pRet (pLstO (pCons (pOp fMulI (pCB fAbs (pCons (pVar 2) pNil)) (pCB fInt1 (pCons (pOp fGe (pCB fAbs (pCons (pVar 2) pNil)) (pC (.int 1000000000000000000))) pNil))) (pCons (pOp fAdd (pOp fAdd (pOp fMod (pVar 2) (pC (.int 2305843009213693951))) (pOp fMulI (pC (.int 39373)) (pVar 1))) (pC (.int 17))) (pCons (pC (.int 0)) pNil))))))
abbrev N__law_take : List Str := [("_law_box_here" : Str), ("_law_size" : Str), ("_law_told" : Str), ("_law_once" : Str), ("_law_twice" : Str)]
def T__law_take (g__law_take : FB) : TSp :=
  (pSeq (pIfS (pTest (pOp fGt (pIxO 0 (pC (.int 0))) (pC (.int 0))))
    (pSeq (pSet 2 (pVal (pOp fMod (pIxO 0 (pC (.int 0))) (pVar 1))))
    (pSeq (pStore 0 (pC (.int 0)) (pOp fDiv (pIxO 0 (pC (.int 0))) (pVar 1)))
    (pRet (pMove 2))))
    pNext)
    (pSeq (pIfS (pTest (pOp fGt (pVar 1) (pC (.int 10000000))))
    (pRet (pVal (pOp fMod (pOp fAdd (pFrz (pCallB 0 2 g__law_take (pCons (pC (.int 10000000)) pNil))) (pOp fMulI (pC (.int 10000000)) (pFrz (pCallB 0 2 g__law_take (pCons (pOp fAdd (pOp fDiv (pOp fSub (pVar 1) (pC (.int 1))) (pC (.int 10000000))) (pC (.int 1))) pNil))))) (pVar 1))))
    pNext)
    (pSeq (pStore 0 (pC (.int 2)) (pOp fAdd (pIxO 0 (pC (.int 2))) (pC (.int 1))))
    (pSeq (pSet 3 (pVal (pOp fMod (pOp fMulI (pOp fAdd (pIxO 0 (pC (.int 1))) (pOp fMulI (pC (.int 48271)) (pIxO 0 (pC (.int 2))))) (pOp fAdd (pC (.int 39373)) (pIxO 0 (pC (.int 2))))) (pC (.int 2147483647)))))
    (pSeq (pSet 4 (pVal (pOp fMod (pOp fMulI (pOp fAdd (pOp fAdd (pVar 3) (pIxO 0 (pC (.int 2)))) (pOp fDiv (pIxO 0 (pC (.int 1))) (pC (.int 1000003)))) (pOp fAdd (pOp fMod (pVar 3) (pC (.int 40009))) (pC (.int 7)))) (pC (.int 2147483629)))))
    (pRet (pVal (pOp fMod (pOp fDiv (pOp fMod (pOp fAdd (pOp fMulI (pVar 4) (pC (.int 48271))) (pVar 3)) (pC (.int 2147483587))) (pC (.int 64))) (pVar 1)))))))))
abbrev N__law_of : List Str := [("_law_box_here" : Str), ("_law_some" : Str)]
def T__law_of (g__law_take : FB) : TSp :=
  (pRet (pVal (pIxO 1 (pFrz (pCallB 0 2 g__law_take (pCons (pLenO 1) pNil))))))
abbrev N__law_same : List Str := [("_law_told" : Str), ("_law_due" : Str), ("_law_here" : Str), ("_law_two" : Str)]
def T__law_same (g__law_same : FA) : TSp :=
  (pSeq (pIfS (pTest (pIsi2 D.isLst D.isTup (pVar 1)))
    (pSeq (pIfS (pOr (pTest (pOp fNe (pIsi D.isLst (pVar 0)) (pIsi D.isLst (pVar 1)))) (pTest (pOp fNe (pIsi D.isTup (pVar 0)) (pIsi D.isTup (pVar 1)))))
    (pRet (pVal (pC (.bl false))))
    pNext)
    (pRet (pVal (pAndV (pOp fEq (pLenO 0) (pLenO 1)) (pCB fAll (pCons (pLc (jZ2 (pCons (pVar 0) (pCons (pVar 1) pNil))) (hTup 2 (hCons (hName 2) (hCons (hName 3) hNil))) pYes (pFrz (pCallA 2 g__law_same (pCons (pVar 2) (pCons (pVar 3) pNil)))) [2, 3]) pNil))))))
    pNext)
    (pSeq (pIfS (pOr (pTest (pOp fIsN (pVar 1) (pC .non))) (pTest (pIsi2 D.isBl D.isStr (pVar 1))))
    (pRet (pVal (pAndV (pOp fEq (pVar 0) (pVar 1)) (pAndV (pOp fEq (pIsi D.isBl (pVar 0)) (pIsi D.isBl (pVar 1))) (pOp fEq (pOp fIsN (pVar 0) (pC .non)) (pOp fIsN (pVar 1) (pC .non)))))))
    pNext)
    (pRet (pVal (pAndV (pIsi D.isInt (pVar 0)) (pAndV (pNotV (pIsi D.isBl (pVar 0))) (pOp fEq (pVar 0) (pVar 1))))))))
abbrev N__law_slope : List Str := [("_law_box_here" : Str)]
def T__law_slope (g__law_take : FB) : TSp :=
  (pRet (pCallB 0 2 g__law_take (pCons (pOp fIx (pLst (pCons (pC (.int 4)) (pCons (pC (.int 9)) (pCons (pC (.int 40)) (pCons (pC (.int 1000000000)) pNil))))) (pFrz (pCallB 0 2 g__law_take (pCons (pC (.int 4)) pNil)))) pNil)))
end Pl
namespace Pl
open PySem PySem.Spec PyProof.Rows L2
def wordS : Bool → Str
  | true => "cut"
  | false => "fill"
def windD (cut : Bool) (s : Int) : D := .tup [.str (wordS cut), .int s]
def blownL (cut : Bool) (s : Int) (ns : List Int) : List Int := if cut = true then cutTo s ns else fillTo s ns
theorem sh_cut : (D.str "cut").sh := by unfold D.sh; decide +kernel
theorem sh_fill : (D.str "fill").sh := by unfold D.sh; decide +kernel
theorem sh_int (i : Int) : (D.int i).sh := by unfold D.sh toPy; rfl
theorem sh_bl (i : Bool) : (D.bl i).sh := by unfold D.sh toPy; rfl
theorem canLay_ints : ∀ ns : List Int, PyData.canLayAll0 (toPys (dI ns)) = true
  | [] => rfl
  | n :: ns => by
    show (PyData.canLay0 (toPy (.int n)) && PyData.canLayAll0 (toPys (dI ns))) = true
    rw [canLay_ints ns]; rfl
theorem depth_dI : ∀ ns : List Int, PyData.depthAll (toPys (dI ns)) = 0
  | [] => rfl
  | n :: ns => by
    show max (PyData.depth (toPy (.int n))) (PyData.depthAll (toPys (dI ns))) = 0
    rw [depth_dI ns]; rfl
theorem sh_tupI (ns : List Int) : (D.tup (dI ns)).sh := by
  show (PyData.canLayAll0 (toPys (dI ns)) && decide (PyData.depthAll (toPys (dI ns)) + 1 ≤ 64)) = true
  rw [canLay_ints, depth_dI]; rfl
theorem eqvAll_dI : ∀ a b : List Int, PyData.eqvAll (toPys (dI a)) (toPys (dI b)) = decide (a = b)
  | [], [] => rfl
  | [], _ :: _ => rfl
  | _ :: _, [] => rfl
  | x :: a, y :: b => by
    show (x == y && PyData.eqvAll (toPys (dI a)) (toPys (dI b))) = _
    rw [eqvAll_dI a b]
    by_cases h1 : x = y
    · subst h1; simp
    · have : (x == y) = false := by simpa using h1
      rw [this]; simp [h1]
theorem eqv_tupI (a b : List Int) : (D.tup (dI a)).eqv (.tup (dI b)) = decide (a = b) := eqvAll_dI a b
theorem eqv_bl (a b : Bool) : (D.bl a).eqv (.bl b) = (a == b) := rfl
theorem eqv_int (a b : Int) : (D.int a).eqv (.int b) = (a == b) := rfl
def g__law_cell_at : FA := fun ds C => ∃ ns k, ds = [.scr ns, .int k] ∧ 0 ≤ k ∧ ∀ n, C (.val (.int n))
theorem rd__law_cell_at : ∀ ds C, ds.length = 2 → g__law_cell_at ds C → T__law_cell_at { nx := fun _ => C (.val .non), rt := fun c _ => C c } (startA N__law_cell_at ds) := by
  rintro ds C - ⟨ns, k, rfl, hk, hC⟩
  refine ifB (fun h => ?_) (fun h => ?_)
  · have h := dT h
    obtain ⟨j, rfl⟩ := Int.eq_ofNat_of_zero_le hk
    have hj : j < ns.length := by simpa using h
    exact ⟨ns[j], atI_nat (List.getElem?_eq_getElem hj), hC _⟩
  · exact hC _
def Bx (n : Nat) (xs : List D) : Prop := ∃ a b c : Int, xs = [.int a, .int b, .int c] ∧ 0 ≤ a ∧ 0 ≤ b ∧ b ≤ 2 ^ 62 ∧ 0 ≤ c ∧ c ≤ n
theorem Bx.mono {n m : Nat} {xs : List D} (h : Bx n xs) (hm : n ≤ m) : Bx m xs := by
  obtain ⟨a, b, c, h1, h2, h3, h4, h5, h6⟩ := h
  exact ⟨a, b, c, h1, h2, h3, h4, h5, by omega⟩
def g__law_box : FA := fun ds C => ∃ ns k, ds = [.scr ns, .int k] ∧ 0 ≤ k ∧ k ≤ 1000000 ∧ ∀ a xs, Bx 0 xs → C (.own a xs)
theorem iabs_nonneg (i : Int) : 0 ≤ iabs i := by unfold iabs; split <;> omega
theorem rd__law_box : ∀ ds C, ds.length = 2 → g__law_box ds C → T__law_box g__law_cell_at { nx := fun _ => C (.val .non), rt := fun c _ => C c } (startA N__law_box ds) := by
  rintro ds C - ⟨ns, k, rfl, hk, hk2, hC⟩
  refine ⟨rfl, ns, k, rfl, hk, fun n => ?_⟩
  refine ⟨.inr ?_, (by show (0 : Int) < 2305843009213693951; decide), .inl (by constructor <;> decide), by show (3 : Nat) ≤ sizeLine; decide, fun a => hC a _ ⟨_, _, _, rfl, ?_, ?_, ?_, Int.le_refl _, Int.le_refl _⟩⟩
  · constructor <;> split <;> decide
  · refine Int.mul_nonneg (iabs_nonneg n) ?_
    split <;> decide
  · have := Int.emod_nonneg n (b := 2305843009213693951) (by decide)
    omega
  · have := Int.emod_lt_of_pos n (b := 2305843009213693951) (by decide)
    omega
def g_take (top : Int) : FB := fun xs ds C => ∃ n size, n ≤ 1000000000000 ∧ Bx n xs ∧ ds = [.int size] ∧ 0 < size ∧ size ≤ top ∧ ∀ r ys, 0 ≤ r → r < size → Bx (n + 2) ys → C (.val (.int r)) ys
def g_none : FB := fun _ _ _ => False
def g_take0 : FB := fun xs ds C => ∃ n size, n ≤ 1000000000001 ∧ Bx n xs ∧ ds = [.int size] ∧ 0 < size ∧ size ≤ 10000000 ∧ ∀ r ys, 0 ≤ r → r < size → Bx (n + 1) ys → C (.val (.int r)) ys
theorem rd_take0g (gg : FB) : ∀ a xs ds C, ds.length + 1 = 2 → g_take0 xs ds C → T__law_take gg { nx := fun ρ => ∃ ys, ρ[0]? = some (some (.own a ys)) ∧ C (.val .non) ys, rt := fun c ρ => ∃ ys, ρ[0]? = some (some (.own a ys)) ∧ C c ys } (startB N__law_take a xs ds) := by
  rintro a xs ds C - ⟨n, size, hn, ⟨b0, b1, b2, rfl, h0, h1, h1', h2, h2'⟩, rfl, hs0, hs, hC⟩
  refine ⟨_, _, _, rfl, rfl, rfl, ifB (fun h => ?_) (fun h => ?_)⟩
  · have h := dT h
    refine ⟨_, _, _, rfl, rfl, rfl, hs0, _, _, _, rfl, rfl, rfl, ⟨hs0, by omega⟩, _, _, _, rfl, rfl, rfl, _, rfl, hC _ _ (Int.emod_nonneg _ (by omega)) (Int.emod_lt_of_pos _ hs0) ⟨_, _, _, rfl, Int.ediv_nonneg h0 (by omega), h1, h1', h2, by omega⟩⟩
  · refine ifF (decide_eq_false (by omega)) ?_
    refine ⟨_, _, _, rfl, rfl, rfl, _, _, _, rfl, rfl, rfl, ?_⟩
    refine ⟨_, _, _, rfl, rfl, rfl, _, _, _, rfl, rfl, rfl, .inl ⟨by decide, by decide⟩, _, _, _, rfl, rfl, rfl, .inr ⟨?_, ?_⟩, (by show (0 : Int) < 2147483647; decide), ?_⟩
    · show (-(2 ^ 64) : Int) < 39373 + (b2 + 1); omega
    · show (39373 + (b2 + 1) : Int) < 2 ^ 64; omega
    refine ⟨_, _, _, rfl, rfl, rfl, _, _, _, rfl, rfl, rfl, ⟨by decide, by decide⟩, (by show (0 : Int) < 40009; decide), .inr ⟨?_, ?_⟩, (by show (0 : Int) < 2147483629; decide), ?_⟩
    · have := Int.emod_nonneg ((b1 + 48271 * (b2 + 1)) * (39373 + (b2 + 1)) % 2147483647) (b := 40009) (by decide)
      show (-(2 ^ 64) : Int) < (b1 + 48271 * (b2 + 1)) * (39373 + (b2 + 1)) % 2147483647 % 40009 + 7
      omega
    · have := Int.emod_lt_of_pos ((b1 + 48271 * (b2 + 1)) * (39373 + (b2 + 1)) % 2147483647) (b := 40009) (by decide)
      show (b1 + 48271 * (b2 + 1)) * (39373 + (b2 + 1)) % 2147483647 % 40009 + 7 < (2 ^ 64 : Int)
      omega
    refine ⟨.inr ⟨by decide, by decide⟩, (by show (0 : Int) < 2147483587; decide), ⟨by decide, by decide⟩, hs0, _, rfl, hC _ _ (Int.emod_nonneg _ (by omega)) (Int.emod_lt_of_pos _ hs0) ⟨_, _, _, rfl, h0, h1, h1', by omega, ?_⟩⟩
    show b2 + 1 ≤ ((n + 1 : Nat) : Int)
    omega
theorem rd_take0 : ∀ a xs ds C, ds.length + 1 = 2 → g_take0 xs ds C → T__law_take g_none { nx := fun ρ => ∃ ys, ρ[0]? = some (some (.own a ys)) ∧ C (.val .non) ys, rt := fun c ρ => ∃ ys, ρ[0]? = some (some (.own a ys)) ∧ C c ys } (startB N__law_take a xs ds) := rd_take0g g_none
theorem rd_take : ∀ a xs ds C, ds.length + 1 = 2 → g_take 100000000000000 xs ds C → T__law_take g_take0 { nx := fun ρ => ∃ ys, ρ[0]? = some (some (.own a ys)) ∧ C (.val .non) ys, rt := fun c ρ => ∃ ys, ρ[0]? = some (some (.own a ys)) ∧ C c ys } (startB N__law_take a xs ds) := by
  rintro a xs ds C - ⟨n, size, hn, hB, rfl, hs0, hs, hC⟩
  have hB' := hB
  obtain ⟨b0, b1, b2, rfl, h0, h1, h1', h2, h2'⟩ := hB
  by_cases hbig : size ≤ 10000000
  · exact rd_take0g g_take0 a _ _ C rfl ⟨n, size, by omega, hB', rfl, hs0, hbig, fun r ys q1 q2 q3 => hC r ys q1 q2 (q3.mono (by omega))⟩
  · refine ⟨_, _, _, rfl, rfl, rfl, ifB (fun h => ?_) (fun h => ?_)⟩
    · have h := dT h
      refine ⟨_, _, _, rfl, rfl, rfl, hs0, _, _, _, rfl, rfl, rfl, ⟨hs0, by omega⟩, _, _, _, rfl, rfl, rfl, _, rfl, hC _ _ (Int.emod_nonneg _ (by omega)) (Int.emod_lt_of_pos _ hs0) ⟨_, _, _, rfl, Int.ediv_nonneg h0 (by omega), h1, h1', h2, by omega⟩⟩
    · refine ifT (decide_eq_true (by omega)) ?_
      refine ⟨_, rfl, rfl, n, 10000000, by omega, hB', rfl, by decide, by decide, fun r1 ys1 q1 q2 q3 => ?_⟩
      have e1 : 0 ≤ (size - 1) / 10000000 := Int.ediv_nonneg (by omega) (by decide)
      have e2 : (size - 1) / 10000000 < 10000000 := Int.ediv_lt_of_lt_mul (by decide) (by omega)
      refine ⟨⟨by decide, by decide⟩, _, rfl, rfl, n + 1, (size - 1) / 10000000 + 1, by omega, q3, rfl, by omega, by omega, fun r2 ys2 p1 p2 p3 => ?_⟩
      refine ⟨.inl ⟨by decide, by decide⟩, hs0, _, rfl, hC _ _ (Int.emod_nonneg _ (by omega)) (Int.emod_lt_of_pos _ hs0) p3⟩
def g__law_of : FB := fun xs ds C => ∃ n d ys, n ≤ 100000000000 ∧ Bx n xs ∧ ds = [d] ∧ (d = .lst ys ∨ d = .tup ys) ∧ 0 < ys.length ∧ ys.length ≤ 1000 ∧ ∀ y zs, y ∈ ys → Bx (n + 2) zs → C (.val y) zs
theorem mem_of_atI {α : Type} {xs : List α} {i : Int} {v : α} (h : atI xs i = some v) : v ∈ xs := by
  obtain ⟨j, _, h2, _⟩ := atI_get h
  exact List.mem_of_getElem? h2
theorem atI_below {α : Type} {xs : List α} {i : Int} (h0 : 0 ≤ i) (h1 : i < xs.length) : ∃ v, atI xs i = some v := by
  obtain ⟨j, rfl⟩ := Int.eq_ofNat_of_zero_le h0
  exact ⟨xs[j]'(by omega), atI_nat (List.getElem?_eq_getElem (by omega))⟩
theorem rd__law_of : ∀ a xs ds C, ds.length + 1 = 2 → g__law_of xs ds C → T__law_of (g_take 100000000000000) { nx := fun ρ => ∃ ys, ρ[0]? = some (some (.own a ys)) ∧ C (.val .non) ys, rt := fun c ρ => ∃ ys, ρ[0]? = some (some (.own a ys)) ∧ C c ys } (startB N__law_of a xs ds) := by
  rintro a xs ds C - ⟨n, d, ys, hn, hB, rfl, hd, hl0, hl, hC⟩
  rcases hd with rfl | rfl
  · refine ⟨xs, rfl, rfl, n, _, by omega, hB, rfl, by omega, by omega, fun r zs q1 q2 q3 => ?_⟩
    obtain ⟨v, hv⟩ := atI_below q1 q2
    exact ⟨v, hv, _, rfl, hC v zs (mem_of_atI hv) q3⟩
  · refine ⟨xs, rfl, rfl, n, _, by omega, hB, rfl, by omega, by omega, fun r zs q1 q2 q3 => ?_⟩
    obtain ⟨v, hv⟩ := atI_below q1 q2
    exact ⟨v, hv, _, rfl, hC v zs (mem_of_atI hv) q3⟩
end Pl
namespace Pl
open PySem PySem.Spec PyProof.Rows L2
def g_law : FA := fun ds C => ∃ ns, ds = [.scr ns] ∧ ns.length ≤ 63 ∧ C (.val (.bl true))
end Pl
namespace Pl
open PySem PySem.Spec PyProof.Rows L2
theorem eqv_str (z : Str) : (D.str z).eqv (.str z) = true := by
  show (z == z) = true
  simp
theorem zip_same {α : Type} {f : α → α → D} : ∀ (xs : List α), List.zipWith f xs xs = xs.map fun x => f x x
  | [] => rfl
  | x :: xs => by simp [zip_same xs]
theorem zipD_same (xs : List D) : zipD xs xs = xs.map fun x => .tup [x, x] := zip_same xs
theorem lcW_same {vs : List Nat} {g : TGp} {te : TEp} {Q : List D → Ro → Prop} {ρ : Ro} {xs : List D} (hs : ∀ x ∈ xs, ElemOk vs g te ρ (.tup [x, x]) (.bl true)) (hl : xs.length ≤ 1000) (hQ : Q (xs.map fun _ => .bl true) ρ) : lcW vs g pYes te Q (zipD xs xs) [] ρ := by
  rw [zipD_same]
  refine lcW_map (f := fun _ => .bl true) _ [] (fun d hd => ?_) (by simpa using hl) ?_
  · obtain ⟨x, hx, rfl⟩ := List.mem_map.mp hd
    exact hs x hx
  · rw [List.nil_append, List.map_map]
    exact hQ
theorem all_true {α : Type} (xs : List α) : ((xs.map fun _ => true).all id) = true := by
  induction xs with
  | nil => rfl
  | cons x xs ih => rw [List.map_cons, List.all_cons, ih]; rfl
theorem map_true {α : Type} (xs : List α) : (xs.map fun _ => D.bl true) = (xs.map fun _ => true).map D.bl := by rw [List.map_map]; rfl
theorem rd_same (n : Nat) : ∀ ds C, ds.length = 2 → gS (n + 1) ds C → T__law_same (gS n) { nx := fun _ => C (.val .non), rt := fun c _ => C c } (startA N__law_same ds) := by
  rintro ds C - ⟨d, rfl, ok, hC⟩
  cases d with
  | non =>
    have h : D.non.sh := by unfold D.sh toPy; rfl
    exact ⟨h, h, sh_bl _, sh_bl _, sh_bl _, sh_bl _, hC⟩
  | bl b =>
    refine ⟨sh_bl _, sh_bl _, ?_⟩
    exact ifT (by rw [eqv_bl]; simp) ⟨sh_bl _, sh_bl _, sh_bl _, sh_bl _, hC⟩
  | int i =>
    refine ⟨sh_int _, sh_int _, ?_⟩
    show C (.val (.bl ((D.int i).eqv (.int i))))
    rw [show (D.int i).eqv (.int i) = true by rw [eqv_int]; simp]
    exact hC
  | str z =>
    have hz : (D.str z).sh := by cases n <;> exact ok
    refine ⟨hz, hz, ?_⟩
    exact ifT (eqv_str z) ⟨sh_bl _, sh_bl _, sh_bl _, sh_bl _, hC⟩
  | scr ns => cases n <;> exact ok.elim
  | adr a => cases n <;> exact ok.elim
  | exc _ _ => cases n <;> exact ok.elim
  | lst xs =>
    cases n with
    | zero => exact ok.elim
    | succ n =>
      obtain ⟨hl, hx⟩ := ok
      refine ⟨sh_bl _, sh_bl _, sh_bl _, sh_bl _, sh_int _, sh_int _, ifT (by rw [eqv_int]; simp) ?_⟩
      refine lcW_same (fun x hx' K hK => ⟨rfl, rfl, rfl, x, rfl, hx x hx', hK _ rfl⟩) hl ⟨_, map_true xs, ?_⟩
      rw [all_true]; exact hC
  | tup xs =>
    cases n with
    | zero => exact ok.elim
    | succ n =>
      obtain ⟨hl, hx⟩ := ok
      refine ⟨sh_bl _, sh_bl _, sh_bl _, sh_bl _, sh_int _, sh_int _, ifT (by rw [eqv_int]; simp) ?_⟩
      refine lcW_same (fun x hx' K hK => ⟨rfl, rfl, rfl, x, rfl, hx x hx', hK _ rfl⟩) hl ⟨_, map_true xs, ?_⟩
      rw [all_true]; exact hC
theorem okN_up : ∀ {n : Nat} {d : D}, okN n d → okN (n + 1) d
  | _, .non, _ => trivial
  | _, .bl _, _ => trivial
  | _, .int _, _ => trivial
  | 0, .str z, h => h
  | n + 1, .str z, h => h
  | n + 1, .lst xs, h => ⟨h.1, fun x hx => okN_up (h.2 x hx)⟩
  | n + 1, .tup xs, h => ⟨h.1, fun x hx => okN_up (h.2 x hx)⟩
  | 0, .lst _, h => h.elim
  | 0, .tup _, h => h.elim
  | 0, .scr _, h => h.elim
  | n + 1, .scr _, h => h.elim
  | 0, .adr _, h => h.elim
  | n + 1, .adr _, h => h.elim
  | 0, .exc _ _, h => h.elim
  | n + 1, .exc _ _, h => h.elim
theorem atI_ints' {ns : List Int} {j : Nat} (h : j < ns.length) : atI (dI ns) (j : Int) = some (.int (ns.getD j 0)) := by
  refine atI_nat ?_
  rw [List.getElem?_map, List.getElem?_eq_getElem h, List.getD_eq_getElem?_getD, List.getElem?_eq_getElem h]; rfl
theorem rangeD_map (n : Nat) : rangeD 0 n = dI ((List.range n).map fun (i : Nat) => (i : Int)) := by
  unfold rangeD dI
  rw [List.map_map]
  apply List.map_congr_left
  intro i _
  show D.int (0 + (i : Int)) = D.int (i : Int)
  rw [Int.zero_add]
theorem mem_rng {n : Nat} {x : Int} (h : x ∈ (List.range n).map fun (i : Nat) => (i : Int)) : ∃ j : Nat, j < n ∧ x = j := by
  obtain ⟨j, hj, e⟩ := List.mem_map.mp h
  exact ⟨j, List.mem_range.mp hj, e.symm⟩
end Pl
namespace Pl
open PySem PySem.Spec PyProof.Rows L2
abbrev Wd := Bool × Int
def windsD (ws : List Wd) : List D := ws.map fun w => windD w.1 w.2
def tD (l : List Int) : D := .tup (dI l)
def blW (l : List Int) (w : Wd) : List Int := blownL w.1 w.2 l
def behindL (l : List Int) (ws : List Wd) : List Int := ws.foldl blW l
def Am (d : D) (ws : List Wd) : Prop := d = .lst (windsD ws) ∨ d = .tup (windsD ws)
theorem windsD_len (ws : List Wd) : (windsD ws).length = ws.length := by simp [windsD]
def g__law_slope : FB := fun xs ds C => ∃ n, n ≤ 100000000000 ∧ Bx n xs ∧ ds = [] ∧ ∀ s zs, 0 ≤ s → s < 1000000000 → Bx (n + 4) zs → C (.val (.int s)) zs
theorem rd__law_slope : ∀ a xs ds C, ds.length + 1 = 1 → g__law_slope xs ds C → T__law_slope (g_take 100000000000000) { nx := fun ρ => ∃ ys, ρ[0]? = some (some (.own a ys)) ∧ C (.val .non) ys, rt := fun c ρ => ∃ ys, ρ[0]? = some (some (.own a ys)) ∧ C c ys } (startB N__law_slope a xs ds) := by
  rintro a xs ds C - ⟨n, hn, hB, rfl, hC⟩
  refine ⟨by show (4 : Nat) ≤ sizeLine; decide, xs, rfl, rfl, n, 4, by omega, hB, rfl, by decide, by decide, fun r ys q1 q2 q3 => ?_⟩
  obtain ⟨v, hv⟩ := atI_below (xs := [D.int 4, .int 9, .int 40, .int 1000000000]) q1 q2
  refine ⟨v, hv, ?_⟩
  obtain ⟨wide, rfl, hw0, hw⟩ : ∃ wide, v = .int wide ∧ 0 < wide ∧ wide ≤ 1000000000 := by
    have := mem_of_atI hv
    simp at this
    rcases this with e | e | e | e <;> subst e <;> exact ⟨_, rfl, by decide, by decide⟩
  exact ⟨ys, rfl, rfl, n + 2, wide, by omega, q3, rfl, hw0, by omega, fun s zs a1 a2 a3 => ⟨zs, rfl, hC s zs a1 (by omega) a3⟩⟩
end Pl
namespace Pl
open PySem PySem.Spec PyProof.Rows L2
abbrev vI (i : Int) : Option Cell := some (.val (.int i))
abbrev vS (c : Bool) : Option Cell := some (.val (.str (wordS c)))
theorem blown_twice {c : Bool} {s t : Int} (hs : 0 ≤ s) (ht : 0 ≤ t) (l : List Int) : blownL c t (blownL c s l) = blownL c (min s t) l := by
  cases c with
  | true => exact cutTo_twice hs ht l
  | false => exact fillTo_twice hs ht l
theorem blown_gentle {c : Bool} {s : Int} (hs : 0 ≤ s) (l : List Int) : Gentle s (blownL c s l) := by
  cases c with
  | true => exact cutTo_gentle hs l
  | false => exact fillTo_gentle hs l
theorem blown_idle {c : Bool} {s : Int} (hs : 0 ≤ s) {l : List Int} : blownL c s l = l ↔ Gentle s l := by
  cases c with
  | true => exact cutTo_idle hs
  | false => exact fillTo_idle hs
end Pl
namespace Pl
open PySem PySem.Spec PyProof.Rows L2
theorem lcW_mapS {α : Type} {vs : List Nat} {g : TGp} {te : TEp} {Q : List D → Ro → Prop} {d f : α → D} {ρ : Ro} : ∀ (xs : List α) (acc : List D), (∀ x ∈ xs, ElemOk vs g te ρ (d x) (f x)) → acc.length + xs.length ≤ sizeLine → Q (acc ++ xs.map f) ρ → lcW vs g pYes te Q (xs.map d) acc ρ
  | [], acc, _, _, hQ => by
    have hQ : Q (acc ++ []) ρ := hQ
    rw [List.append_nil] at hQ
    exact hQ
  | x :: xs, acc, h, hl, hQ => by
    have hl' : acc.length + (xs.length + 1) ≤ sizeLine := hl
    refine h x (by simp) _ fun ρ4 e => ⟨by omega, ?_⟩
    rw [e]
    refine lcW_mapS xs _ (fun y hy => h y (by simp [hy])) (by rw [List.length_append]; show acc.length + 1 + xs.length ≤ sizeLine; omega) ?_
    rw [List.append_assoc]
    exact hQ
end Pl
namespace Pl
open PySem PySem.Spec PyProof.Rows L2
section
variable {α β : Type} {vs : List Nat} {g : TGp} {tt : TTp} {te : TEp} {tb : TSp} {P : PEnds} {Q : List D → Ro → Prop} {ρ : Ro}
theorem lc_mp {ds : List D} (xs : List α) (d f : α → D) (e : ds = xs.map d) (h : ∀ x ∈ xs, ElemOk vs g te ρ (d x) (f x)) (hl : xs.length ≤ 1000) (hQ : Q (xs.map f) ρ) : lcW vs g pYes te Q ds [] ρ := by
  subst e
  exact lcW_mapS xs [] h (by rw [List.length_nil, Nat.zero_add]; exact sl1000 hl) hQ
def ElemIf (vs : List Nat) (g : TGp) (tt : TTp) (te : TEp) (ρ : Ro) (d : D) (p : Bool) (y : D) : Prop := ∀ (K : Bool → Ro → Prop), (∀ ρ3, restore ρ ρ3 vs = ρ → (p = true → ∀ K2 : D → Ro → Prop, (∀ ρ4, restore ρ ρ4 vs = ρ → K2 y ρ4) → te ρ3 K2) → K p ρ3) → g d (wipeP ρ vs) fun ρ2 => tt ρ2 K
theorem lcW_fl : ∀ (xs : List α) (d f : α → D) (p : α → Bool) (acc : List D), (∀ x ∈ xs, ElemIf vs g tt te ρ (d x) (p x) (f x)) → acc.length + xs.length ≤ sizeLine → Q (acc ++ (xs.filter p).map f) ρ → lcW vs g tt te Q (xs.map d) acc ρ
  | [], d, f, p, acc, _, _, hQ => by
    have hQ : Q (acc ++ []) ρ := hQ
    rw [List.append_nil] at hQ
    exact hQ
  | x :: xs, d, f, p, acc, h, hl, hQ => by
    have hl' : acc.length + (xs.length + 1) ≤ sizeLine := hl
    refine h x (by simp) _ fun ρ3 e3 ht => ?_
    cases hp : p x with
    | true =>
      refine ite_ti (ht hp _ fun ρ4 e4 => ⟨by omega, ?_⟩)
      rw [e4]
      refine lcW_fl xs d f p _ (fun y hy => h y (by simp [hy])) (by rw [List.length_append]; show acc.length + 1 + xs.length ≤ sizeLine; omega) ?_
      rw [List.filter_cons_of_pos hp, List.map_cons] at hQ
      rw [List.append_assoc]
      exact hQ
    | false =>
      refine ite_fi ?_
      rw [e3]
      refine lcW_fl xs d f p _ (fun y hy => h y (by simp [hy])) (by omega) ?_
      rw [List.filter_cons_of_neg (by rw [hp]; decide)] at hQ
      exact hQ
theorem lc_fl {ds : List D} (xs : List α) (d f : α → D) (p : α → Bool) (e : ds = xs.map d) (h : ∀ x ∈ xs, ElemIf vs g tt te ρ (d x) (p x) (f x)) (hl : xs.length ≤ 1000) (hQ : Q ((xs.filter p).map f) ρ) : lcW vs g tt te Q ds [] ρ := by
  subst e
  exact lcW_fl xs d f p [] h (by rw [List.length_nil, Nat.zero_add]; exact sl1000 hl) hQ
theorem rangeD_nat (n : Nat) : rangeD 0 n = (List.range n).map fun (j : Nat) => D.int (j : Int) := by
  unfold rangeD
  apply List.map_congr_left
  intro j _
  rw [Int.zero_add]
theorem enumD_map (d : α → D) : ∀ (xs : List α) (k : Nat), enumD k (xs.map d) = (xs.zipIdx k).map fun p => .tup [.int ((p.2 : Nat) : Int), d p.1]
  | [], _ => rfl
  | x :: xs, k => by
    show D.tup [.int (k : Int), d x] :: enumD (k + 1) (xs.map d) = _
    rw [enumD_map d xs]; rfl
theorem lc_enf {ds : List D} (xs : List α) (d : α → D) (f : Nat → α → D) (p : Nat → α → Bool) (e : ds = xs.map d) (h : ∀ (k : Nat) (x : α), xs[k]? = some x → ElemIf vs g tt te ρ (.tup [.int (k : Int), d x]) (p k x) (f k x)) (hl : xs.length ≤ 1000) (hQ : Q (((xs.zipIdx).filter fun z => p z.2 z.1).map fun z => f z.2 z.1) ρ) : lcW vs g tt te Q (enumD 0 ds) [] ρ := by
  subst e
  refine lc_fl xs.zipIdx (fun p => .tup [.int ((p.2 : Nat) : Int), d p.1]) (fun p => f p.2 p.1) (fun z => p z.2 z.1) (enumD_map d xs 0) (fun p hp => ?_) (by simpa using hl) hQ
  obtain ⟨x, k⟩ := p
  exact h k x (List.mem_zipIdx_iff_getElem?.mp hp)
theorem forW_mp : ∀ (xs : List α) (d : α → D) (ρ : Ro) (I : List α → Ro → Prop), I xs ρ → (∀ (x : α) (r : List α) (ρ : Ro) (K : Ro → Prop), I (x :: r) ρ → (∀ ρ', I r ρ' → K ρ') → g (d x) ρ fun ρ1 => tb { P with nx := K, ct := K, bk := P.nx } ρ1) → (∀ ρ, I [] ρ → P.nx ρ) → forW g tb P (xs.map d) ρ
  | [], d, ρ, I, h, _, he => he ρ h
  | x :: xs, d, ρ, I, h, hs, he => hs x xs ρ _ h fun ρ' h' => forW_mp xs d ρ' I h' hs he
theorem fr_mp {ds : List D} (xs : List α) (d : α → D) (I : List α → Ro → Prop) (e : ds = xs.map d) (h0 : I xs ρ) (hs : ∀ (x : α) (r : List α) (ρ : Ro) (K : Ro → Prop), I (x :: r) ρ → (∀ ρ', I r ρ' → K ρ') → g (d x) ρ fun ρ1 => tb { P with nx := K, ct := K, bk := P.nx } ρ1) (he : ∀ ρ, I [] ρ → P.nx ρ) : forW g tb P ds ρ := by
  subst e
  exact forW_mp xs d ρ I h0 hs he
theorem forW_rg (I : Nat → Ro → Prop) (n : Nat) (hs : ∀ (j : Nat) (ρ : Ro) (K : Ro → Prop), j < n → I j ρ → (∀ ρ', I (j + 1) ρ' → K ρ') → g (.int (j : Int)) ρ fun ρ1 => tb { P with nx := K, ct := K, bk := P.nx } ρ1) (he : ∀ ρ, I n ρ → P.nx ρ) : ∀ (k j : Nat) (ρ : Ro), k + j = n → I j ρ → forW g tb P ((List.range' j k).map fun (j : Nat) => D.int (j : Int)) ρ
  | 0, j, ρ, e, h => he ρ (by rw [← e, Nat.zero_add]; exact h)
  | k + 1, j, ρ, e, h => by
    rw [List.range'_succ, List.map_cons]
    exact hs j ρ _ (by omega) h fun ρ' h' => forW_rg I n hs he k (j + 1) ρ' (by omega) h'
theorem fr_rg {m : Nat} (n : Nat) (I : Nat → Ro → Prop) (e : m = n) (h0 : I 0 ρ) (hs : ∀ (j : Nat) (ρ : Ro) (K : Ro → Prop), j < n → I j ρ → (∀ ρ', I (j + 1) ρ' → K ρ') → g (.int (j : Int)) ρ fun ρ1 => tb { P with nx := K, ct := K, bk := P.nx } ρ1) (he : ∀ ρ, I n ρ → P.nx ρ) : forW g tb P (rangeD 0 m) ρ := by
  subst e
  rw [rangeD_nat, List.range_eq_range']
  exact forW_rg I m hs he m 0 ρ (by omega) h0
theorem fr_en {ds : List D} (xs : List α) (d : α → D) (I : Nat → List α → Ro → Prop) (e : ds = xs.map d) (h0 : I 0 xs ρ) (hs : ∀ (k : Nat) (x : α) (r : List α) (ρ : Ro) (K : Ro → Prop), I k (x :: r) ρ → (∀ ρ', I (k + 1) r ρ' → K ρ') → g (.tup [.int (k : Int), d x]) ρ fun ρ1 => tb { P with nx := K, ct := K, bk := P.nx } ρ1) (he : ∀ k ρ, I k [] ρ → P.nx ρ) : forW g tb P (enumD 0 ds) ρ := by
  subst e
  have key : ∀ (xs : List α) (k : Nat) (ρ : Ro), I k xs ρ → forW g tb P (enumD k (xs.map d)) ρ := by
    intro xs
    induction xs with
    | nil => exact fun k ρ h => he k ρ h
    | cons x xs ih => exact fun k ρ h => hs k x xs ρ _ h fun ρ' h' => ih (k + 1) ρ' h'
  exact key xs 0 ρ h0
end
end Pl
namespace Pl
open PySem PySem.Spec PyProof.Rows L2
variable [TJ]
def Cell.shut : Option Cell → Option Cell
  | some (.own _ xs) => some (.val (.lst xs))
  | some (.box _) => none
  | x => x
def frzAll (ρ : Ro) : Ro := ρ.map Cell.shut
def isOwn (ρ : Ro) (b : Addr) : Prop := ∃ (i : Nat) (xs : List D), ρ[i]? = some (some (.own b xs))
open Classical in
noncomputable def shutF (ρ : Ro) (F H : Hp) : Hp := fun b => if isOwn ρ b then H b else F b
section
variable {K : PySem.W.Frag} {G F H : Hp} {σ : L2.St} {ρ : Ro}
theorem shut_own {b : Addr} (h : isOwn ρ b) : shutF ρ F H b = H b := by unfold shutF; rw [if_pos h]
theorem shut_not {b : Addr} (h : ¬ isOwn ρ b) : shutF ρ F H b = F b := by unfold shutF; rw [if_neg h]
theorem frz_get {i : Nat} {c : Cell} (h : (frzAll ρ)[i]? = some (some c)) : (∃ d, ρ[i]? = some (some (.val d)) ∧ c = .val d) ∨ ∃ a xs, ρ[i]? = some (some (.own a xs)) ∧ c = .val (.lst xs) := by
  unfold frzAll at h
  rw [List.getElem?_map] at h
  cases q : ρ[i]? with
  | none => rw [q] at h; cases h
  | some o =>
    rw [q] at h
    have h : Cell.shut o = some c := Option.some.inj h
    cases o with
    | none => cases h
    | some c' =>
      cases c' with
      | val d => cases h; exact .inl ⟨d, rfl, rfl⟩
      | own a xs => cases h; exact .inr ⟨a, xs, rfl, rfl⟩
      | box s => cases h
theorem Sim.shut (S : Sim K G F H σ ρ) : Up G F (shutF ρ F H) ∧ Sim K G (shutF ρ F H) H σ (frzAll ρ) := by
  have fresh : ∀ b, isOwn ρ b → F b = none ∧ G b = none := fun b ⟨i, xs, e⟩ => ⟨(S.own i b xs e).2.1, (S.own i b xs e).2.2.1⟩
  have sm : Same F (shutF ρ F H) := fun b o e => by
    rw [shut_not fun h => by rw [(fresh b h).1] at e; cases e]; exact e
  refine ⟨⟨sm, fun b o e => ?_⟩, fun b o e => ?_, S.hG.froz fun b o e => ?_, by rw [S.len]; unfold frzAll; simp, fun i d e => ?_, fun i a xs e => ?_, fun i j a xs ys e1 e2 => ?_, .nil fun i s e => by rcases frz_get e with ⟨d', q, z⟩ | ⟨a', xs', q, z⟩ <;> cases z⟩
  · by_cases h : isOwn ρ b
    · exact .inr (fresh b h).2
    · rw [shut_not h] at e; exact .inl e
  · by_cases h : isOwn ρ b
    · rw [shut_own h] at e; exact e
    · rw [shut_not h] at e; exact S.hF b o e
  · by_cases h : isOwn ρ b
    · obtain ⟨i, xs, e'⟩ := h
      obtain ⟨_, _, _, vs, h4, _⟩ := S.own i b xs e'
      exact .inr ⟨vs, h4⟩
    · rw [shut_not h] at e; exact .inl e
  · rcases frz_get e with ⟨d', q, z⟩ | ⟨a, xs, q, z⟩
    · cases z
      obtain ⟨v, h1, h2⟩ := S.val i d q
      exact ⟨v, h1, h2.mono sm⟩
    · cases z
      obtain ⟨h1, h2, h3, vs, h4, h5⟩ := S.own i a xs q
      exact ⟨_, h1, .lst (by rw [shut_own ⟨i, xs, q⟩]; exact h4) (h5.mono sm)⟩
  · rcases frz_get e with ⟨d', q, z⟩ | ⟨a', xs', q, z⟩ <;> cases z
  · rcases frz_get e1 with ⟨d', q, z⟩ | ⟨a', xs', q, z⟩ <;> cases z
open Classical in
noncomputable def shutG (ρ : Ro) (G H : Hp) : Hp := fun b => if InBox ρ b then H b else G b
theorem shutG_in {b : Addr} (h : InBox ρ b) : shutG ρ G H b = H b := by unfold shutG; rw [if_pos h]
theorem shutG_not {b : Addr} (h : ¬ InBox ρ b) : shutG ρ G H b = G b := by unfold shutG; rw [if_neg h]
theorem shutG_same (S : Sim K G F H σ ρ) : Same G (shutG ρ G H) := fun b o e => by
  rw [shutG_not fun h => by rw [(S.bx.free h).2.1] at e; cases e]; exact e
theorem Sim.shutB (S : Sim K G F H σ ρ) : Sim K (shutG ρ G H) (shutF ρ F H) H σ (frzAll ρ) := by
  have S1 := S.shut.2
  refine ⟨S1.hF, ⟨fun b o e => ?_, TJ.frame S1.hG.tj fun b o e => ?_⟩, S1.len, S1.val, fun i a xs e => ?_, S1.ne, .nil fun i s e => by rcases frz_get e with ⟨d', q, z⟩ | ⟨a', xs', q, z⟩ <;> cases z⟩
  · by_cases h : InBox ρ b
    · rw [shutG_in h] at e; exact e
    · rw [shutG_not h] at e; exact S.hG b o e
  · by_cases h : InBox ρ b
    · exact .inr (S.bx.mut h)
    · rw [shutG_not h] at e; exact .inl e
  · rcases frz_get e with ⟨d', q, z⟩ | ⟨a', xs', q, z⟩ <;> cases z
theorem Sim.unshut {F2 H2 : Hp} {ρ2 : Ro} (S : Sim K G F H σ ρ) (u : Up (shutG ρ G H) (shutF ρ F H) F2) (S2 : Sim K (shutG ρ G H) F2 H2 σ ρ2) : Sim K G F H2 σ ρ := by
  refine ⟨(S.shut.1.ex.trans u.ex).trans S2.hF, (S2.hG.less (shutG_same S)).step (.refl _) fun b o e => .inl ((S.shut.1.ex.trans u.ex) b o e), S.len, S.val, fun i a xs e => ?_, S.ne, S.bx.heap (.refl _) fun p m => let ⟨f, g, o, e⟩ := S.bx.free m; ⟨f, g, (S2.hG p o (by rw [shutG_in m]; exact e)).trans e.symm⟩⟩
  obtain ⟨h1, h2, h3, vs, h4, h5⟩ := S.own i a xs e
  refine ⟨h1, h2, h3, vs, S2.hF a _ (u.ex a _ ?_), h5⟩
  rw [shut_own ⟨i, xs, e⟩]; exact h4
end
section
variable {X : Cx} {e : Expr} {te : TE} {Te : TEp}
def pPeek (Te : TEp) : TEp := fun ρ Q => Te (frzAll ρ) fun d _ => match d with
  | .bl b => Q (.bl b) ρ
  | .int i => Q (.int i) ρ
  | .str z => Q (.str z) ρ
  | .non => Q .non ρ
  | _ => False
end
theorem ppt_peek {X : Cx} {e : Expr} {t : TT} {T : TEp} (h : PPT X e t (pTest T)) : PPT X e t (pTest (pPeek T)) := ⟨h.pt, fun G F H σ ρ Q R S hT k => by
  have e1 : (fun (d : D) (_ : Ro) => match d with
      | .bl b => (fun (x : D) (ρ' : Ro) => match x with | .bl k => Q k ρ' | _ => False) (.bl b) ρ
      | .int i => (fun (x : D) (ρ' : Ro) => match x with | .bl k => Q k ρ' | _ => False) (.int i) ρ
      | .str z => (fun (x : D) (ρ' : Ro) => match x with | .bl k => Q k ρ' | _ => False) (.str z) ρ
      | .non => (fun (x : D) (ρ' : Ro) => match x with | .bl k => Q k ρ' | _ => False) .non ρ
      | _ => False) = fun (x : D) (_ : Ro) => match x with | .bl k => Q k ρ | _ => False := by
    funext d ρ'
    cases d <;> rfl
  have hT : T (frzAll ρ) fun (x : D) (_ : Ro) => match x with | .bl k => Q k ρ | _ => False := by
    rw [← e1]; exact hT
  exact h.snd (shutG ρ G H) (shutF ρ F H) H σ (frzAll ρ) (fun b _ => Q b ρ) _ S.shutB hT fun b F2 H2 ρ2 u2 S2 q2 => k b F H2 ρ (.refl _ _) (S.unshut u2 S2) q2⟩
theorem CellOk.more {K : PySem.W.Frag} {G F H : Hp} {ρ : Ro} {v : V} {c : Cell} {p : Addr} {o : HO} (h : CellOk K G F H ρ v c) (hp : H p = none) : CellOk K G F (upd H p o) ρ v c := by
  cases c with
  | val d => exact h
  | own q xs =>
    obtain ⟨h1, h2, h3, h4, us, h5, h6⟩ := h
    exact ⟨h1, h2, h3, h4, us, by rw [upd_ne (ne_of_none h5 hp)]; exact h5, h6⟩
  | box s => exact h
section
variable {X : Cx} {T : TCs} {pos : Pos}
theorem pps_asgC {i j : Nat} {x y : Str} {a b : Expr} {ta : TA} {px py pt : Pos} {kt k2 pt2} (hc : X.calm = true) (hN : X.N.Nodup) (ha : PPCs X [a, b] ta T) (hi : X.N[i]? = some x := by rfl) (hj : X.N[j]? = some y := by rfl)
    (hx : Loc X.env.scope x := by first | exact Or.inl rfl | exact Or.inr rfl) (hy : Loc X.env.scope y := by first | exact Or.inl rfl | exact Or.inr rfl)
    (hfx : X.fn x = true ∨ X.env.scope.names.lookup x = some .local := by first | exact .inl rfl | exact .inr rfl | assumption) (hfy : X.fn y = true ∨ X.env.scope.names.lookup y = some .local := by first | exact .inl rfl | exact .inr rfl | assumption)
    (hs : swapsWithSole [.Tuple [.Name x px, .Name y py] kt pt] (.Tuple [a, b] k2 pt2) pos.line X.env = pure false := by rfl) (hw : swappedStores [.Tuple [.Name x px, .Name y py] kt pt] (.Tuple [a, b] k2 pt2) X.env = pure none := by rfl)
    (h1 : (assignEach [.Tuple [.Name x px, .Name y py] kt pt] X.env).map (·.2) = [assign (.Tuple [.Name x px, .Name y py] kt pt) X.env] := by rfl)
    (g1 : (assignEach [.Name x px, .Name y py] X.env).map (·.2) = assign (.Name x px) X.env :: (assignEach [.Name y py] X.env).map (·.2) := by rfl) (g2 : (assignEach [.Name y py] X.env).map (·.2) = assign (.Name y py) X.env :: (assignEach [] X.env).map (·.2) := by rfl)
    (hn : (assignEach [.Name x px, .Name y py] X.env).length = 2 := by rfl) (hst : (assignEach [.Name x px, .Name y py] X.env).findIdx? (·.1) = none := by rfl) :
    PPS X (.Assign [.Tuple [.Name x px, .Name y py] kt pt] (.Tuple [a, b] k2 pt2) pos) (tAsg (tTup ta) (gTup X.K 2 (gCons (gName i) (gCons (gName j) gNil)))) (pParC i j T) :=
  ⟨ps_asg (pe_tup ha.pa) (pg_tup hc (pgs_cons (pg_name hN hi hx hfx) (pgs_cons (pg_name hN hj hy hfy) pgs_nil g2) g1) hn hst) hs hw h1, fun G F H σ ρ P D S hT r =>
  ha.snd G F H σ ρ _ _ S hT fun vs cs F' H' ρ' u S' o q => by
    have l2 := two_cells q
    obtain ⟨c1, c2, rfl⟩ := len_two l2
    obtain ⟨v1, v2, rfl⟩ := len_two (o.len.trans l2)
    refine ⟨by show (2 : Nat) ≤ sizeLine; decide, fun p hp => ⟨p, [v1, v2], rfl, SqT.of upd_same, rfl, v1, [v2], rfl, v2, [], rfl, rfl, ?_⟩⟩
    have S1 := S'.more (o := .tup [v1, v2]) hp
    refine r.nx F' _ _ _ u ((S1.put i (o.1.more hp)).put j ((o.2.1.1.more hp).put o.1.noBox fun p xs e w ys e2 => ?_)) q
    subst e2
    exact o.2.2 p xs e w ys (by simp)⟩
end
end Pl
namespace Pl
open PySem PySem.Spec PyProof.Rows L2
variable [TJ]
section
variable {X : Cx} {a : Expr} {ta : TE} {Ta : TEp} {p pos : Pos}
def pSortR (Te : TEp) : TEp := fun ρ Q => Te ρ fun x ρ1 => match x with
  | .lst xs => ∃ ns : List Int, xs = ns.map D.int ∧ ∀ ns' : List Int, ns'.Perm ns → ns'.Pairwise (· ≥ ·) → Q (.lst (ns'.map D.int)) ρ1
  | _ => False
theorem ppe_sortR {e : Expr} {te : TE} {Te : TEp} {p pos kp cp : Pos} {k : Nat} (hg : Gl X "sorted") (hm : X.mg "sorted" = none) (ha : PPE X e te Te) (he : backTo pos (starEach [e] X.env) = (false, eval e X.env) :: backTo pos (starEach [] X.env) := by rfl) (hpl : (backTo pos (starEach [e] X.env)).any (·.1) = false := by rfl)
    (hs : starEach [e] X.env = (false, eval e X.env) :: starEach [] X.env := by rfl) :
    PPE X (.Call (.Name "sorted" p) [e] [⟨some "reverse", .Constant (.bool true) k cp, kp⟩] pos) (tCKw (rSortedKw X.K true [.bl true]) (tCons te tNil) (tCons (tC (.bl true)) tNil)) (pSortR Te) := ⟨pe_callBK cr_sortedRev hg hm (by decide +kernel) (pa_cons ha.pe pa_nil hs) (pk_cons pe_bl pk_nil) (by decide) (by decide) he hpl, fun G F H σ ρ Q R S hT kk =>
  ha.snd G F H σ ρ _ _ S hT fun v d F1 H1 ρ1 u1 S1 r1 q1 => by
    cases r1 with
    | lst e r =>
      obtain ⟨ns, rfl, q⟩ := q1
      have := r.ints
      subst this
      refine ⟨_, ns, rfl, rfl, SqL.of (S1.hF _ _ e), fun ns' p hp ho hn => kk _ _ _ _ ρ1 (u1.trans (S1.upNew hn)) (S1.new hn) (.lst upd_same (Reps.ofInts ns')) (q ns' hp ho)⟩
    | _ => exact q1.elim⟩
end
end Pl
namespace Pl
open PySem PySem.Spec PyProof.Rows L2
def rowsD (rows : List (List Int)) : List D := rows.map fun r => .lst (r.map D.int)
def Rws (H : Hp) : List Addr → List (List Int) → Prop
  | [], [] => True
  | q :: qs, r :: rs => H q = some (.lst (r.map V.int)) ∧ Rws H qs rs
  | _, _ => False
theorem Rws.mono {H H' : Hp} (e : Same H H') : ∀ {qs : List Addr} {rs : List (List Int)}, Rws H qs rs → Rws H' qs rs
  | [], [], _ => trivial
  | _ :: _, _ :: _, h => ⟨e _ _ h.1, Rws.mono e h.2⟩
  | [], _ :: _, h => h.elim
  | _ :: _, [], h => h.elim
theorem Rws.upd {H : Hp} {p : Addr} {o : HO} : ∀ {qs : List Addr} {rs : List (List Int)}, p ∉ qs → Rws H qs rs → Rws (L2.upd H p o) qs rs
  | [], [], _, _ => trivial
  | q :: qs, r :: rs, n, h => ⟨by rw [upd_ne (fun e => n (by rw [← e]; exact List.mem_cons_self))]; exact h.1, Rws.upd (fun z => n (List.mem_cons_of_mem _ z)) h.2⟩
  | [], _ :: _, _, h => h.elim
  | _ :: _, [], _, h => h.elim
theorem Rws.len {H : Hp} : ∀ {qs : List Addr} {rs : List (List Int)}, Rws H qs rs → qs.length = rs.length
  | [], [], _ => rfl
  | _ :: _, _ :: _, h => by simp [Rws.len h.2]
  | [], _ :: _, h => h.elim
  | _ :: _, [], h => h.elim
theorem Rws.reps {K : PySem.W.Frag} {H F : Hp} : ∀ {qs : List Addr} {rs : List (List Int)}, (∀ q ∈ qs, F q = H q) → Rws H qs rs → Reps K F (qs.map V.ref) (rowsD rs)
  | [], [], _, _ => .nil
  | q :: qs, r :: rs, e, h => .cons (.lst ((e q List.mem_cons_self).trans h.1) (Reps.ofInts r)) (Rws.reps (fun x hx => e x (List.mem_cons_of_mem _ hx)) h.2)
  | [], _ :: _, _, h => h.elim
  | _ :: _, [], _, h => h.elim
structure SB (G F : Hp) (R : Addr) (qs : List Addr) (rows : List (List Int)) (H : Hp) : Prop where
  fF : Same F H
  fG : Same G H
  gR : G R = none
  fR : F R = none
  hR : H R = some (.lst (qs.reverse.map V.ref))
  nR : R ∉ qs
  nd : qs.Nodup
  gq : ∀ q ∈ qs, G q = none
  fq : ∀ q ∈ qs, F q = none
  hq : Rws H qs rows
theorem Rws.at {H : Hp} {q : Addr} : ∀ {qs : List Addr} {rs : List (List Int)}, q ∈ qs → Rws H qs rs → ∃ r : List Int, H q = some (.lst (r.map V.int))
  | _ :: _, r :: _, hq, h => by
    rcases List.mem_cons.mp hq with rfl | hq
    · exact ⟨r, h.1⟩
    · exact Rws.at hq h.2
  | [], _, hq, _ => absurd hq (by simp)
  | _ :: _, [], _, h => h.elim
theorem SB.up {G F F1 H H1 : Hp} {R : Addr} {qs : List Addr} {rows : List (List Int)} (B : SB G F R qs rows H) (u : Up H F F1) (e : Same H H1) (e1 : Same F1 H1) : SB G F1 R qs rows H1 := by
  refine ⟨e1, B.fG.trans e, B.gR, u.isNone B.fR B.hR, e _ _ B.hR, B.nR, B.nd, B.gq, fun q hq => ?_, B.hq.mono e⟩
  obtain ⟨r, hr⟩ := B.hq.at hq
  exact u.isNone (B.fq q hq) hr
theorem SB.more {G F H : Hp} {R p : Addr} {qs : List Addr} {rows : List (List Int)} (B : SB G F R qs rows H) (hp : H p = none) : SB G F R (p :: qs) ([] :: rows) (upd (upd H p (.lst [])) R (.lst (qs.reverse.map V.ref ++ [.ref p]))) := by
  have pR : p ≠ R := fun e => by subst e; rw [B.hR] at hp; cases hp
  have fp : F p = none := B.fF.free hp
  have gp : G p = none := B.fG.free hp
  have keep : ∀ (K : Hp), Same K H → K R = none → Same K (upd (upd H p (.lst [])) R (.lst (qs.reverse.map V.ref ++ [.ref p]))) := fun K e k a o h => by
    have aR : a ≠ R := fun z => by subst z; rw [k] at h; cases h
    have ap : a ≠ p := fun z => by subst z; rw [e.free hp] at h; cases h
    rw [upd_ne aR, upd_ne ap]
    exact e a o h
  have pq : p ∉ qs := fun z => by
    obtain ⟨r, hr⟩ := B.hq.at z
    rw [hr] at hp; cases hp
  refine ⟨keep F B.fF B.fR, keep G B.fG B.gR, B.gR, B.fR, ?_, ?_, List.nodup_cons.mpr ⟨pq, B.nd⟩, ?_, ?_, ?_, ?_⟩
  · rw [upd_same, List.reverse_cons, List.map_append]; rfl
  · intro z
    rcases List.mem_cons.mp z with z | z
    · exact pR z.symm
    · exact B.nR z
  · intro q hq
    rcases List.mem_cons.mp hq with rfl | hq
    · exact gp
    · exact B.gq q hq
  · intro q hq
    rcases List.mem_cons.mp hq with rfl | hq
    · exact fp
    · exact B.fq q hq
  · rw [upd_ne pR, upd_same]; rfl
  · exact (B.hq.upd pq).upd B.nR
theorem SB.grow {G F H : Hp} {R q : Addr} {qs : List Addr} {r : List Int} {rows : List (List Int)} (s : Int) (B : SB G F R (q :: qs) (r :: rows) H) : SB G F R (q :: qs) ((r ++ [s]) :: rows) (upd H q (.lst (r.map V.int ++ [.int s]))) := by
  have qR : R ≠ q := fun e => B.nR (by rw [e]; exact List.mem_cons_self)
  have keep : ∀ (K : Hp), Same K H → K q = none → Same K (upd H q (.lst (r.map V.int ++ [.int s]))) := fun K e k a o h => by
    have aq : a ≠ q := fun z => by subst z; rw [k] at h; cases h
    rw [upd_ne aq]
    exact e a o h
  refine ⟨keep F B.fF (B.fq q List.mem_cons_self), keep G B.fG (B.gq q List.mem_cons_self), B.gR, B.fR, by rw [upd_ne qR]; exact B.hR, B.nR, B.nd, B.gq, B.fq, ?_, B.hq.2.upd (List.nodup_cons.mp B.nd).1⟩
  rw [upd_same, List.map_append]
  rfl
theorem SB.froz {K : PySem.W.Frag} {G F H : Hp} {R : Addr} {qs : List Addr} {rows : List (List Int)} {d : D} {v0 : V} {w2 : Option V} (B : SB G F R qs rows H) (r0 : Rep K F v0 d) :
    ∃ F', Up G F F' ∧ Sim K G F' H ([some v0, some (.ref R), w2] ++ [some (.ref R)]) ([some (.val d), none, none] ++ [some (.own R (rowsD rows.reverse))]) := by
  refine ⟨fun a => if a ∈ qs then H a else F a, ⟨fun a o h => ?_, fun a o h => ?_⟩, ⟨fun a o h => ?_, SameJ.of B.fG, rfl, fun i d' h => ?_, fun i a xs h => ?_, fun i j a xs ys h1 h2 => ?_, .nil fun i s h => by
    match i, h with
    | 0, h => cases h
    | 1, h => cases h
    | 2, h => cases h
    | 3, h => cases h
    | _ + 4, h => simp at h⟩⟩
  · have h1 : a ∉ qs := fun z => by rw [B.fq a z] at h; cases h
    show (if a ∈ qs then H a else F a) = some o
    rw [if_neg h1]; exact h
  · have h : (if a ∈ qs then H a else F a) = some o := h
    by_cases z : a ∈ qs
    · exact .inr (B.gq a z)
    · rw [if_neg z] at h; exact .inl h
  · have h : (if a ∈ qs then H a else F a) = some o := h
    by_cases z : a ∈ qs
    · rw [if_pos z] at h; exact h
    · rw [if_neg z] at h; exact B.fF a o h
  · have hmono : Same F (fun a => if a ∈ qs then H a else F a) := fun a o h => by
      have h1 : a ∉ qs := fun z => by rw [B.fq a z] at h; cases h
      show (if a ∈ qs then H a else F a) = some o
      rw [if_neg h1]; exact h
    match i, h with
    | 0, h =>
      cases h
      exact ⟨v0, rfl, r0.mono hmono⟩
    | 1, h => cases h
    | 2, h => cases h
    | 3, h => cases h
    | _ + 4, h => simp at h
  · match i, h with
    | 0, h => cases h
    | 1, h => cases h
    | 2, h => cases h
    | 3, h =>
      cases h
      refine ⟨rfl, ?_, B.gR, qs.reverse.map V.ref, B.hR, ?_⟩
      · show (if R ∈ qs then H R else F R) = none
        rw [if_neg B.nR]; exact B.fR
      · have := Rws.reps (K := K) (F := fun a => if a ∈ qs then H a else F a) (fun q hq => if_pos hq) B.hq
        have := this.reverse
        rw [← List.map_reverse] at this
        have e : rowsD rows.reverse = (rowsD rows).reverse := by unfold rowsD; rw [List.map_reverse]
        rw [e]
        exact this
    | _ + 4, h => simp at h
  · match i, j, h1, h2 with
    | 3, 3, _, _ => rfl
    | 0, _, h1, _ => cases h1
    | 1, _, h1, _ => cases h1
    | 2, _, h1, _ => cases h1
    | 3, 0, _, h2 => cases h2
    | 3, 1, _, h2 => cases h2
    | 3, 2, _, h2 => cases h2
    | 3, _ + 4, _, h2 => simp at h2
    | _ + 4, _, h1, _ => simp at h1
end Pl
namespace PySem.W
open PySem Sem PyProof.Rows
structure Z3St (S z TI TO i1 i2 i3 l1 l2 l3 : Addr) (xs ys us : Array Value) (h : Heap) (i : Nat) : Prop where
  hTI : IsTupOf3 h TI (.ref i1) (.ref i2) (.ref i3)
  h1 : h.IsListIter i1 l1 i
  h2 : h.IsListIter i2 l2 i
  h3 : h.IsListIter i3 l3 i
  hl1 : h.IsList l1 xs
  hl2 : h.IsList l2 ys
  hl3 : h.IsList l3 us
  st : (i = 0 ∧ IsZip h z TI TO .none ∧ ∃ a1 a2 a3, IsTupOf3 h TO a1 a2 a3) ∨ ∃ T f oT, IsZipHeld h z TI TO T f ∧ h.get? T = some oT ∧ S < T
structure ZLow (S z TI TO i1 i2 i3 l1 l2 l3 : Addr) : Prop where
  z : z < S
  TI : TI < S
  TO : TO < S
  i1 : i1 < S
  i2 : i2 < S
  i3 : i3 < S
  l1 : l1 < S
  l2 : l2 < S
  l3 : l3 < S
theorem isList_at {h h' : Heap} {l : Addr} {items : Array Value} (x : h.IsList l items) (e : ∀ o, h.get? l = some o → h'.get? l = some o) : h'.IsList l items := by
  obtain ⟨o, ho, r⟩ := x
  exact ⟨o, e o ho, r⟩
section
variable {S z TI TO i1 i2 i3 l1 l2 l3 : Addr} {xs ys us : Array Value}
theorem Z3St.keep {h h' : Heap} {i : Nat} (x : Z3St S z TI TO i1 i2 i3 l1 l2 l3 xs ys us h i) (e : ∀ b o, b ≠ S → h.get? b = some o → h'.get? b = some o)
    (L : ZLow S z TI TO i1 i2 i3 l1 l2 l3) : Z3St S z TI TO i1 i2 i3 l1 l2 l3 xs ys us h' i := by
  refine ⟨e _ _ (Nat.ne_of_lt L.TI) x.hTI, x.h1.at fun o q => e _ o (Nat.ne_of_lt L.i1) q, x.h2.at fun o q => e _ o (Nat.ne_of_lt L.i2) q, x.h3.at fun o q => e _ o (Nat.ne_of_lt L.i3) q, isList_at x.hl1 fun o q => e _ o (Nat.ne_of_lt L.l1) q, isList_at x.hl2 fun o q => e _ o (Nat.ne_of_lt L.l2) q, isList_at x.hl3 fun o q => e _ o (Nat.ne_of_lt L.l3) q, ?_⟩
  rcases x.st with ⟨e0, hz, p, q, r, hTO⟩ | ⟨T, f, oT, hz, hT, hl⟩
  · exact .inl ⟨e0, e _ _ (Nat.ne_of_lt L.z) hz, p, q, r, e _ _ (Nat.ne_of_lt L.TO) hTO⟩
  · exact .inr ⟨T, f, oT, e _ _ (Nat.ne_of_lt L.z) hz, e _ _ (Nat.ne_of_gt hl) hT, hl⟩
section
variable {prog : Program} {w : World} {A : Around} {E : Value → Shared → Prop} {s : Shared} {i n : Nat}
structure G3 (xs ys us : Array Value) (lo : Addr) (h : Heap) (as : List Addr) : Prop where
  rise : as.Pairwise (· < ·)
  above : ∀ a ∈ as, lo < a
  tups : ∀ (j : Nat) (a : Addr), as[j]? = some a → ∃ x y u, xs[j]? = some x ∧ ys[j]? = some y ∧ us[j]? = some u ∧ IsTupOf3 h a x y u
theorem G3.there {lo : Addr} {h : Heap} {as : List Addr} (g : G3 xs ys us lo h as) {a : Addr} (ha : a ∈ as) : a < h.objs.size := by
  obtain ⟨j, hj⟩ := List.mem_iff_getElem?.mp ha
  obtain ⟨_, _, _, _, _, _, e⟩ := g.tups j a hj
  exact Heap.lt_size e
end
end
end PySem.W
namespace Pl
open PySem PySem.Spec PyProof.Rows L2
variable [TJ]
def NEl (K : PySem.W.Frag) (G F H : Hp) (ρ : Ro) (p : Addr) (xs : List D) : Prop := F p = none ∧ G p = none ∧ NotOwn ρ p ∧ ∃ us, H p = some (.lst us) ∧ Reps K F us xs
structure Nst (K : PySem.W.Frag) (G F H : Hp) (σ : L2.St) (ρ : Ro) (i : Nat) (q : Addr) (es : List (Addr × List D)) : Prop where
  sl : σ[i]? = some (some (.ref q))
  z : ρ[i]? = some none
  nf : F q = none
  ng : G q = none
  no : NotOwn ρ q
  hq : H q = some (.lst (es.map fun e => V.ref e.1))
  el : ∀ e ∈ es, NEl K G F H ρ e.1 e.2
  nd : (q :: es.map (·.1)).Nodup
open Classical in
noncomputable def plusG (G H : Hp) (as : List Addr) : Hp := fun b => if b ∈ as then H b else G b
theorem plus_in {G H : Hp} {as : List Addr} {b : Addr} (h : b ∈ as) : plusG G H as b = H b := by unfold plusG; rw [if_pos h]
theorem plus_out {G H : Hp} {as : List Addr} {b : Addr} (h : b ∉ as) : plusG G H as b = G b := by unfold plusG; rw [if_neg h]
section
variable {K : PySem.W.Frag} {G F H F1 H1 : Hp} {σ : L2.St} {ρ ρ1 : Ro} {i : Nat} {q : Addr} {es : List (Addr × List D)}
theorem Sim.rebase (S : Sim K G F H σ ρ) (hF : Same F H1) (hG : SameJ G F H1) (ho : ∀ b, isOwn ρ b ∨ InBox ρ b → H1 b = H b) : Sim K G F H1 σ ρ :=
  ⟨hF, hG, S.len, S.val, fun i a xs e => by
    obtain ⟨h1, h2, h3, vs, h4, h5⟩ := S.own i a xs e
    exact ⟨h1, h2, h3, vs, by rw [ho a (.inl ⟨i, xs, e⟩)]; exact h4, h5⟩, S.ne, S.bx.heap (.refl _) fun p m => ⟨(S.bx.free m).1, (S.bx.free m).2.1, ho p (.inr m)⟩⟩
abbrev adrs (q : Addr) (es : List (Addr × List D)) : List Addr := q :: es.map (·.1)
theorem Nst.free (N : Nst K G F H σ ρ i q es) {b : Addr} (h : b ∈ adrs q es) : F b = none ∧ G b = none ∧ NotOwn ρ b ∧ ∃ us, H b = some (.lst us) := by
  rcases List.mem_cons.mp h with e | h
  · subst e; exact ⟨N.nf, N.ng, N.no, _, N.hq⟩
  · obtain ⟨e, he, rfl⟩ := List.mem_map.mp h
    obtain ⟨h1, h2, h3, us, h4, _⟩ := N.el e he
    exact ⟨h1, h2, h3, us, h4⟩
theorem Nst.same {A : Hp} (N : Nst K G F H σ ρ i q es) (h : ∀ b ∈ adrs q es, A b = none) : Same A (plusG A H (adrs q es)) := fun b o e => by
  rw [plus_out fun z => by rw [h b z] at e; cases e]; exact e
theorem Nst.guard (S : Sim K G F H σ ρ) (N : Nst K G F H σ ρ i q es) : Sim K (plusG G H (adrs q es)) F H σ ρ :=
  ⟨S.hF, ⟨fun b o e => by
    by_cases h : b ∈ adrs q es
    · rw [plus_in h] at e; exact e
    · rw [plus_out h] at e; exact S.hG b o e, TJ.frame S.hG.tj fun b o e => by
    by_cases h : b ∈ adrs q es
    · obtain ⟨_, _, _, us, h4⟩ := N.free h
      exact .inr ⟨_, h4, trivial⟩
    · rw [plus_out h] at e; exact .inl e⟩, S.len, S.val, fun j a xs e => by
    obtain ⟨h1, h2, h3, h4⟩ := S.own j a xs e
    exact ⟨h1, h2, by rw [plus_out fun z => (N.free z).2.2.1.1 j xs e]; exact h3, h4⟩, S.ne, S.bx.heap (.refl _) fun p m => ⟨(S.bx.free m).1, by rw [plus_out fun z => (N.free z).2.2.1.2 m]; exact (S.bx.free m).2.1, rfl⟩⟩
theorem Nst.mut (S : Sim K G F H σ ρ) (N : Nst K G F H σ ρ i q es) {j : Nat} {e : Addr × List D} {vs : List V} {ys : List D} (he : es[j]? = some e) (r : Reps K F vs ys) :
    Sim K G F (upd H e.1 (.lst vs)) σ ρ ∧ Nst K G F (upd H e.1 (.lst vs)) σ ρ i q (es.set j (e.1, ys)) := by
  have hm : e ∈ es := List.mem_of_getElem? he
  obtain ⟨h1, h2, h3, us, h4, h5⟩ := N.el e hm
  have hj : j < es.length := by
    rcases Nat.lt_or_ge j es.length with h | h
    · exact h
    · rw [List.getElem?_eq_none h] at he; cases he
  have nq : q ≠ e.1 := fun z => (List.nodup_cons.mp N.nd).1 (z ▸ List.mem_map.mpr ⟨e, hm, rfl⟩)
  have em : (es.set j (e.1, ys)).map (fun x => x.1) = es.map (fun x => x.1) := by
    rw [List.map_set]
    refine List.ext_getElem? fun k => ?_
    by_cases hk : j = k
    · subst hk
      rw [List.getElem?_set_self (by rw [List.length_map]; exact hj), List.getElem?_map, he]; rfl
    · rw [List.getElem?_set_ne hk]
  refine ⟨S.rebase (fun b o z => ?_) (S.hG.mut h2 h4) (fun b hb => ?_), ⟨N.sl, N.z, N.nf, N.ng, N.no, ?_, fun x hx => ?_, by rw [em]; exact N.nd⟩⟩
  · rw [upd_ne fun y => by subst y; rw [h1] at z; cases z]; exact S.hF b o z
  · rcases hb with ⟨k, xs, z⟩ | hb
    · rw [upd_ne fun y => by subst y; exact h3.1 k xs z]
    · rw [upd_ne fun y => by subst y; exact h3.2 hb]
  · rw [upd_ne nq, N.hq]
    have : (es.set j (e.1, ys)).map (fun x => V.ref x.1) = es.map (fun x => V.ref x.1) := by
      have := congrArg (List.map V.ref) em
      rw [List.map_map, List.map_map] at this; exact this
    rw [this]
  · rcases List.mem_or_eq_of_mem_set hx with hx' | hx'
    · by_cases hxe : x.1 = e.1
      ·
        obtain ⟨k, hk⟩ := List.getElem?_of_mem hx
        by_cases hjk : j = k
        · subst hjk
          rw [List.getElem?_set_self hj] at hk
          cases hk
          exact ⟨h1, h2, h3, vs, upd_same, r⟩
        · rw [List.getElem?_set_ne hjk] at hk
          have nd := (List.nodup_cons.mp N.nd).2
          have a1 : (es.map (·.1))[j]? = some e.1 := by rw [List.getElem?_map, he]; rfl
          have a2 : (es.map (·.1))[k]? = some x.1 := by rw [List.getElem?_map, hk]; rfl
          have hkl : k < (es.map (·.1)).length := by
            rcases Nat.lt_or_ge k (es.map (·.1)).length with h | h
            · exact h
            · rw [List.getElem?_eq_none h] at a2; cases a2
          exact absurd ((List.getElem?_inj (by rw [List.length_map]; exact hj) nd).mp (by rw [a1, a2, hxe])) hjk
      · obtain ⟨g1, g2, g3, ws, g4, g5⟩ := N.el x hx'
        exact ⟨g1, g2, g3, ws, by rw [upd_ne hxe]; exact g4, g5⟩
    · subst hx'
      exact ⟨h1, h2, h3, vs, upd_same, r⟩
theorem reps_refs {A : Hp} : ∀ {es : List (Addr × List D)}, (∀ e ∈ es, ∃ us, A e.1 = some (.lst us) ∧ Reps K A us e.2) → Reps K A (es.map fun e => V.ref e.1) ((es.map (·.2)).map D.lst)
  | [], _ => .nil
  | e :: es, h => by
    obtain ⟨us, h1, h2⟩ := h e (by simp)
    exact .cons (.lst h1 h2) (reps_refs fun x hx => h x (by simp [hx]))
theorem Nst.look (S : Sim K G F H σ ρ) (N : Nst K G F H σ ρ i q es) : Up G F (plusG F H (adrs q es)) ∧ Sim K G (plusG F H (adrs q es)) H σ (ρ.set i (some (.val (.lst ((es.map (·.2)).map D.lst))))) := by
  have sm : Same F (plusG F H (adrs q es)) := N.same fun b h => (N.free h).1
  have hi : i < ρ.length := by
    rcases Nat.lt_or_ge i ρ.length with h | h
    · exact h
    · have := N.z; rw [List.getElem?_eq_none h] at this; cases this
  have mq : q ∈ adrs q es := by simp
  have me : ∀ e ∈ es, e.1 ∈ adrs q es := fun e he => List.mem_cons_of_mem _ (List.mem_map.mpr ⟨e, he, rfl⟩)
  have S1 : Sim K G (plusG F H (adrs q es)) H σ ρ := ⟨fun b o e => by
      by_cases h : b ∈ adrs q es
      · rw [plus_in h] at e; exact e
      · rw [plus_out h] at e; exact S.hF b o e, S.hG.froz fun b o e => by
      by_cases h : b ∈ adrs q es
      · obtain ⟨_, _, _, us, h4⟩ := N.free h
        exact .inr ⟨us, h4⟩
      · rw [plus_out h] at e; exact .inl e, S.len, fun j d e => by
      obtain ⟨v, h1, h2⟩ := S.val j d e
      exact ⟨v, h1, h2.mono sm⟩, fun j a xs e => by
      obtain ⟨h1, h2, h3, vs, h4, h5⟩ := S.own j a xs e
      exact ⟨h1, by rw [plus_out fun z => (N.free z).2.2.1.1 j xs e]; exact h2, h3, vs, h4, h5.mono sm⟩, S.ne, S.bx.heap sm fun p m => ⟨by rw [plus_out fun z => (N.free z).2.2.1.2 m]; exact (S.bx.free m).1, (S.bx.free m).2.1, rfl⟩⟩
  refine ⟨⟨sm, fun b o e => ?_⟩, ?_⟩
  · by_cases h : b ∈ adrs q es
    · exact .inr (N.free h).2.1
    · rw [plus_out h] at e; exact .inl e
  · have S2 := S1.setVal i (v := .ref q) (d := .lst ((es.map (·.2)).map D.lst)) (.lst (by rw [plus_in mq]; exact N.hq) (reps_refs fun e he => by
      obtain ⟨h1, h2, h3, us, h4, h5⟩ := N.el e he
      exact ⟨us, by rw [plus_in (me e he)]; exact h4, h5.mono sm⟩))
    have : σ.set i (some (.ref q)) = σ := by
      refine List.ext_getElem? fun k => ?_
      by_cases hk : i = k
      · subst hk; rw [List.getElem?_set_self (by rw [S.len]; exact hi), N.sl]
      · rw [List.getElem?_set_ne hk]
    rw [this] at S2; exact S2
end
section
variable {X : Cx} {i : Nat} {st a rest : List Stmt} {t u : TS} {T : TSp} {U : List (List D) → TSp} {e : Expr} {es : List Expr} {te : TE} {ta : TA} {Te : TEp} {Tc : TCs} {pos : Pos}
theorem NEl.more {K : PySem.W.Frag} {G F H : Hp} {ρ : Ro} {p r : Addr} {xs : List D} {o : HO} {i : Nat} (h : NEl K G F H ρ p xs) (hr : H r = none) : NEl K G F (upd H r o) (ρ.set i none) p xs := by
  obtain ⟨h1, h2, h3, us, h4, h5⟩ := h
  refine ⟨h1, h2, ⟨fun j ys e => ?_, fun m => h3.2 (set_inbox (by simp) m)⟩, us, by rw [upd_ne (ne_of_none h4 hr)]; exact h4, h5⟩
  by_cases hj : i = j
  · subst hj
    by_cases hi : i < ρ.length
    · rw [List.getElem?_set_self hi] at e; cases e
    · rw [List.getElem?_eq_none (by simpa using hi)] at e; cases e
  · rw [List.getElem?_set_ne hj] at e; exact h3.1 j ys e
end
end Pl
namespace Pl
open PySem PySem.Spec PyProof.Rows L2
section
variable {X : Cx}
def rInT (K : PySem.W.Frag) : R2 := fun x y H Q => ∃ d ds, Dp K H x d ∧ Dp K H y (.tuple ds) ∧ SeqAt.shaped d = true ∧ SeqAt.shaped (.tuple ds) = true ∧ Q (.bl (ds.any fun z => PyData.eqv z d)) H
def rNotInT (K : PySem.W.Frag) : R2 := fun x y H Q => ∃ d ds, Dp K H x d ∧ Dp K H y (.tuple ds) ∧ SeqAt.shaped d = true ∧ SeqAt.shaped (.tuple ds) = true ∧ Q (.bl (!ds.any fun z => PyData.eqv z d)) H
theorem op_inT (hu : X.A.units + 65 < cLine) : OpR X (compareOp .In) (rInT X.K) := by
  intro pins s σ H x y v u Q I rx ry h
  obtain ⟨d, ds, hd, he, sd, se, q⟩ := h
  obtain ⟨as, r1⟩ := Dp.reads I d x v hd rx
  obtain ⟨bs, r2⟩ := Dp.reads I (.tuple ds) y u he ry
  exact SeqAt.in_tuple_reads r2 r1 (SeqAt.canLay_of_shaped se) (SeqAt.canLay_of_shaped sd) (room_in_shaped sd hu) ⟨.bl _, H, I, rfl, q⟩
theorem op_notInT (hu : X.A.units + 65 < cLine) : OpR X (compareOp .NotIn) (rNotInT X.K) := by
  intro pins s σ H x y v u Q I rx ry h
  obtain ⟨d, ds, hd, he, sd, se, q⟩ := h
  obtain ⟨as, r1⟩ := Dp.reads I d x v hd rx
  obtain ⟨bs, r2⟩ := Dp.reads I (.tuple ds) y u he ry
  exact SeqAt.notIn_tuple_reads r2 r1 (SeqAt.canLay_of_shaped se) (SeqAt.canLay_of_shaped sd) (room_in_shaped sd hu) ⟨.bl _, H, I, rfl, q⟩
def fInT : F2 := fun x y Q => match y with
  | .tup ys => x.sh ∧ (D.tup ys).sh ∧ Q (.bl (ys.any fun z => z.eqv x))
  | _ => False
def fNotInT : F2 := fun x y Q => match y with
  | .tup ys => x.sh ∧ (D.tup ys).sh ∧ Q (.bl (!ys.any fun z => z.eqv x))
  | _ => False
theorem cm_inT (hu : X.A.units + 65 < cLine) : Cmp X .In (rInT X.K) fInT := ⟨op_inT hu, fun F H x y dx dy Q R hs rx ry hf k => by
  cases ry with
  | @tup a vs ys h r =>
    obtain ⟨h1, h2, q⟩ := hf
    refine ⟨toPy dx, toPys ys, rx.dp hs h1, ?_, h1, ?_, ?_⟩
    · have := (Rep.tup h r).dp hs h2; rw [toPy] at this; exact this
    · unfold D.sh at h2; rw [toPy] at h2; exact h2
    · rw [any_toPys]; exact k _ _ _ _ (.old (.bl _)) q
  | _ => exact hf.elim⟩
theorem cm_ninT (hu : X.A.units + 65 < cLine) : Cmp X .NotIn (rNotInT X.K) fNotInT := ⟨op_notInT hu, fun F H x y dx dy Q R hs rx ry hf k => by
  cases ry with
  | @tup a vs ys h r =>
    obtain ⟨h1, h2, q⟩ := hf
    refine ⟨toPy dx, toPys ys, rx.dp hs h1, ?_, h1, ?_, ?_⟩
    · have := (Rep.tup h r).dp hs h2; rw [toPy] at this; exact this
    · unfold D.sh at h2; rw [toPy] at h2; exact h2
    · rw [any_toPys]; exact k _ _ _ _ (.old (.bl _)) q
  | _ => exact hf.elim⟩
end
end Pl
namespace Pl
open PySem PySem.Spec PyProof.Rows L2
variable [TJ]
def lookD (ps : List (L2.Key × D)) (k : L2.Key) : Option D := (ps.find? fun p => decide (p.1 = k)).map (·.2)
def putD (ps : List (L2.Key × D)) (k : L2.Key) (y : D) : List (L2.Key × D) :=
  if (ps.any fun p => decide (p.1 = k)) = true then ps.map (fun p => if p.1 = k then (p.1, y) else p) else ps ++ [(k, y)]
section
variable {K : PySem.W.Frag} {F : Hp}
theorem KvR.len : ∀ {kvs : List (L2.Key × V)} {ps : List (L2.Key × D)}, KvR K F kvs ps → kvs.length = ps.length
  | [], [], _ => rfl
  | _ :: _, _ :: _, h => congrArg (· + 1) (KvR.len h.2.2)
  | [], _ :: _, h => h.elim
  | _ :: _, [], h => h.elim
theorem KvR.keys : ∀ {kvs : List (L2.Key × V)} {ps : List (L2.Key × D)}, KvR K F kvs ps → kvs.map (·.1) = ps.map (·.1)
  | [], [], _ => rfl
  | p :: _, q :: _, h => by
    show p.1 :: _ = q.1 :: _
    rw [h.1, KvR.keys h.2.2]
  | [], _ :: _, h => h.elim
  | _ :: _, [], h => h.elim
theorem KvR.look (k : L2.Key) : ∀ {kvs : List (L2.Key × V)} {ps : List (L2.Key × D)}, KvR K F kvs ps → (valV kvs k = none ∧ lookD ps k = none) ∨ ∃ v y, valV kvs k = some v ∧ lookD ps k = some y ∧ Rep K F v y
  | [], [], _ => .inl ⟨rfl, rfl⟩
  | p :: kvs, q :: ps, h => by
    by_cases e : p.1 = k
    · exact .inr ⟨p.2, q.2, valV_pos e, by unfold lookD; rw [List.find?_cons_of_pos (by rw [← h.1]; exact decide_eq_true e)]; rfl, h.2.1⟩
    · have e2 : lookD (q :: ps) k = lookD ps k := by unfold lookD; rw [List.find?_cons_of_neg (by rw [← h.1]; simp [e])]
      rw [valV_neg e, e2]
      exact KvR.look k h.2.2
  | [], _ :: _, h => h.elim
  | _ :: _, [], h => h.elim
theorem KvR.any (k : L2.Key) : ∀ {kvs : List (L2.Key × V)} {ps : List (L2.Key × D)}, KvR K F kvs ps → (kvs.any fun p => decide (p.1 = k)) = (ps.any fun p => decide (p.1 = k))
  | [], [], _ => rfl
  | p :: kvs, q :: ps, h => by rw [List.any_cons, List.any_cons, h.1, KvR.any k h.2.2]
  | [], _ :: _, h => h.elim
  | _ :: _, [], h => h.elim
theorem KvR.repl {k : L2.Key} {v : V} {y : D} (r : Rep K F v y) : ∀ {kvs : List (L2.Key × V)} {ps : List (L2.Key × D)}, KvR K F kvs ps → KvR K F (kvs.map fun p => if p.1 = k then (p.1, v) else p) (ps.map fun p => if p.1 = k then (p.1, y) else p)
  | [], [], _ => trivial
  | p :: kvs, q :: ps, h => by
    have t := KvR.repl (k := k) r h.2.2
    by_cases e : p.1 = k
    · have e2 : q.1 = k := h.1 ▸ e
      show KvR K F ((if p.1 = k then (p.1, v) else p) :: _) ((if q.1 = k then (q.1, y) else q) :: _)
      rw [if_pos e, if_pos e2]
      exact ⟨h.1, r, t⟩
    · have e2 : ¬ q.1 = k := fun z => e (h.1 ▸ z)
      show KvR K F ((if p.1 = k then (p.1, v) else p) :: _) ((if q.1 = k then (q.1, y) else q) :: _)
      rw [if_neg e, if_neg e2]
      exact ⟨h.1, h.2.1, t⟩
  | [], _ :: _, h => h.elim
  | _ :: _, [], h => h.elim
theorem KvR.snoc {k : L2.Key} {v : V} {y : D} (r : Rep K F v y) : ∀ {kvs : List (L2.Key × V)} {ps : List (L2.Key × D)}, KvR K F kvs ps → KvR K F (kvs ++ [(k, v)]) (ps ++ [(k, y)])
  | [], [], _ => ⟨rfl, r, trivial⟩
  | p :: kvs, q :: ps, h => ⟨h.1, h.2.1, KvR.snoc r h.2.2⟩
  | [], _ :: _, h => h.elim
  | _ :: _, [], h => h.elim
theorem KvR.put {k : L2.Key} {v : V} {y : D} (r : Rep K F v y) {kvs : List (L2.Key × V)} {ps : List (L2.Key × D)} (h : KvR K F kvs ps) : KvR K F (putK kvs k v) (putD ps k y) := by
  unfold putK putD
  rw [h.any k]
  split
  · exact h.repl r
  · exact h.snoc r
end
def Sh.pairs : Sh → Option (List (L2.Key × D))
  | .dic _ ps => some ps
  | .dicL _ _ _ ps => some ps
  | .ins .. => none
  | .gen _ => none
theorem Sh.At.look {K : PySem.W.Frag} {F H : Hp} {s : Sh} (h : s.At K F H) {ps : List (L2.Key × D)} (e : s.pairs = some ps) (k : L2.Key) : ∃ o, DGet H s.root (kV k) o ∧ o.isSome = (lookD ps k).isSome ∧ ∀ y, lookD ps k = some y → ∃ v, o = some v ∧ Rep K F v y := by
  have fin : ∀ (a : Addr) (kvs : List (L2.Key × V)), Rd H a (.dK kvs) → KvR K F kvs ps → ∃ o, DGet H a (kV k) o ∧ o.isSome = (lookD ps k).isSome ∧ ∀ y, lookD ps k = some y → ∃ v, o = some v ∧ Rep K F v y := fun a kvs rd r => by
    refine ⟨valV kvs k, .inl ⟨kvs, k, rd, rfl, rfl⟩, ?_⟩
    rcases r.look k with ⟨h1, h2⟩ | ⟨v, y, h1, h2, h3⟩
    · rw [h1, h2]; exact ⟨rfl, fun y z => by cases z⟩
    · rw [h1, h2]; exact ⟨rfl, fun y' z => by cases z; exact ⟨v, rfl, h3⟩⟩
  cases s with
  | dic a ps' =>
    cases e
    obtain ⟨kvs, h1, h2⟩ := h
    exact fin a kvs (.inl h1) h2
  | dicL a o kvs ps' =>
    cases e
    exact fin a kvs (.inr ⟨o, h.1⟩) h.2
  | ins a C dx fs => cases e
  | gen g => cases e
theorem Sim.mutBox {K : PySem.W.Frag} {G F H H' : Hp} {σ : L2.St} {ρ : Ro} (S : Sim K G F H σ ρ) {i : Nat} {s s' : Sh} (e : ρ[i]? = some (some (.box s))) (hr : s'.root = s.root) (hf : ∀ p ∈ s'.foot, p ∈ s.foot) (ho : ∀ p, p ∉ s.foot → H' p = H p) (hG : SameJ G F H') (ha : s'.At K F H') :
    Sim K G F H' σ (ρ.set i (some (.box s'))) := by
  obtain ⟨b1, b2, b3⟩ := S.bx.box i s e
  have hi := at_lt e
  have cut : ∀ {j : Nat} {x : Cell}, (ρ.set i (some (.box s')))[j]? = some (some x) → (ρ[j]? = some (some x) ∧ i ≠ j) ∨ (j = i ∧ x = .box s') := fun {j x} h => by
    by_cases hj : i = j
    · subst hj
      rw [List.getElem?_set_self hi] at h
      cases h
      exact .inr ⟨rfl, rfl⟩
    · rw [List.getElem?_set_ne hj] at h; exact .inl ⟨h, hj⟩
  refine ⟨fun b o q => ?_, hG, by simpa using S.len, fun j d' h => ?_, fun j b ys h => ?_, fun j k b ys zs h1 h2 => ?_, fun j t h => ?_, fun j k t u p h1 h2 m1 m2 => ?_, fun j a xs h ⟨k, t, h1, m⟩ => ?_⟩
  · rw [ho b fun m => by rw [(b2 b m).1] at q; cases q]; exact S.hF b o q
  · rcases cut h with ⟨h, q⟩ | ⟨_, z⟩
    · exact S.val j d' h
    · cases z
  · rcases cut h with ⟨h, q⟩ | ⟨_, z⟩
    · obtain ⟨g1, g2, g3, vs, g4, g5⟩ := S.own j b ys h
      exact ⟨g1, g2, g3, vs, by rw [ho b fun m => S.bx.bo j b ys h ⟨i, s, e, m⟩]; exact g4, g5⟩
    · cases z
  · rcases cut h1 with ⟨h1, _⟩ | ⟨_, z⟩
    · rcases cut h2 with ⟨h2, _⟩ | ⟨_, z⟩
      · exact S.ne j k b ys zs h1 h2
      · cases z
    · cases z
  · rcases cut h with ⟨h, q⟩ | ⟨rfl, z⟩
    · obtain ⟨g1, g2, g3⟩ := S.bx.box j t h
      exact ⟨g1, g2, g3.mono (.refl _) fun p m => ho p fun m2 => q (S.bx.bb i j s t p e h m2 m)⟩
    · cases z
      exact ⟨by rw [hr]; exact b1, fun p m => b2 p (hf p m), ha⟩
  · rcases cut h1 with ⟨h1, q1⟩ | ⟨e1, z⟩
    · rcases cut h2 with ⟨h2, _⟩ | ⟨e2, z⟩
      · exact S.bx.bb j k t u p h1 h2 m1 m2
      · cases z
        exact absurd (S.bx.bb i j s t p e h1 (hf p m2) m1) q1
    · cases z
      rcases cut h2 with ⟨h2, q2⟩ | ⟨e2, _⟩
      · exact absurd (S.bx.bb i k s u p e h2 (hf p m1) m2) q2
      · omega
  · rcases cut h with ⟨h, _⟩ | ⟨_, z⟩
    · rcases cut h1 with ⟨h1, _⟩ | ⟨_, z⟩
      · exact S.bx.bo j a xs h ⟨k, t, h1, m⟩
      · cases z
        exact S.bx.bo j a xs h ⟨i, s, e, hf a m⟩
    · cases z
end Pl
namespace Pl
open PySem PySem.Spec PyProof.Rows L2
abbrev Fds := List (Str × Fd)
end Pl
namespace Pl
open PySem PySem.Spec PyProof.Rows L2
section
variable {K : PySem.W.Frag} {F H : Hp}
theorem FsR.look : ∀ {vs : List (Str × V)} {fs : Fds} (m : Str), FsR K F H vs fs → (vs.lookup m = none ∧ fs.lookup m = none) ∨ ∃ v d, vs.lookup m = some v ∧ fs.lookup m = some d ∧ d.At K F H v
  | [], [], m, _ => .inl ⟨rfl, rfl⟩
  | (x, v) :: vs, (y, d) :: fs, m, h => by
    obtain ⟨rfl, h2, h3⟩ := h
    rw [List.lookup_cons, List.lookup_cons]
    by_cases e : (m == x) = true
    · rw [e]; exact .inr ⟨v, d, rfl, rfl, h2⟩
    · have e : (m == x) = false := by simpa using e
      rw [e]; exact FsR.look m h3
  | [], _ :: _, _, h => h.elim
  | _ :: _, [], _, h => h.elim
end
end Pl
namespace Pl
open PySem PySem.Spec PyProof.Rows L2
def putFd (f : Str) (d : Fd) : Fds → Fds
  | [] => [(f, d)]
  | (g, x) :: r => if g = f then (g, d) :: r else (g, x) :: putFd f d r
section
variable {K : PySem.W.Frag} {F H H' : Hp}
theorem FsR.put {f : Str} {v : V} {d : Fd} (hd : d.At K F H v) : ∀ {vs : List (Str × V)} {fs : Fds}, FsR K F H vs fs → FsR K F H (putF f v vs) (putFd f d fs)
  | [], [], _ => ⟨rfl, hd, trivial⟩
  | (x, w) :: vs, (g, y) :: fs, h => by
    obtain ⟨rfl, h2, h3⟩ := h
    unfold putF putFd
    by_cases e : x = f
    · rw [if_pos e, if_pos e]; exact ⟨rfl, hd, h3⟩
    · rw [if_neg e, if_neg e]; exact ⟨rfl, h2, FsR.put hd h3⟩
  | [], _ :: _, h => h.elim
  | _ :: _, [], h => h.elim
theorem FsR.len : ∀ {vs : List (Str × V)} {fs : Fds}, FsR K F H vs fs → vs.length = fs.length
  | [], [], _ => rfl
  | _ :: _, _ :: _, h => congrArg (· + 1) (FsR.len h.2.2)
  | [], _ :: _, h => h.elim
  | _ :: _, [], h => h.elim
end
end Pl
namespace L2
open PySem PySem.Spec PyProof.Rows
theorem exk_ok {P : Program} {w : World} {H : Hp} {h : Heap} {a C dd : Addr} {oe : Obj} {vs : Array Value} (e : h.get? a = some oe) (z : Zc (.ref C) (some dd) oe) (d : oe.data = .fields vs) : ObjOk P w H h a (exk a C dd) :=
  ⟨⟨oe, vs, e, z.1, z.2, d⟩, ⟨oe, e⟩, fun _ _ ⟨o, v, q, r⟩ k => ⟨o, v, k o q, r⟩⟩
theorem exk_at {P : Program} {w : World} {H : Hp} {h : Heap} {a C dd : Addr} (hok : HOk P w H h) (e : H a = some (exk a C dd)) : ∃ (oe : Obj) (vs : Array Value), h.get? a = some oe ∧ oe.cls = .ref C ∧ oe.dict = some dd ∧ oe.data = .fields vs := by
  have x : ObjOk P w H h a (.ext fun h => ∃ (oe : Obj) (vs : Array Value), h.get? a = some oe ∧ oe.cls = .ref C ∧ oe.dict = some dd ∧ oe.data = .fields vs) := hok a _ e
  exact x.1
section
variable {X : Cx} {pins : List (Addr × Obj)} {σ : St} {H : Hp} {s : Shared}
theorem Inv.track (I : Inv X pins σ H s) {a C dd : Addr} {oe : Obj} {vs : Array Value} (na : H a = none) (n0 : X.s_0.heap.get? a = none) (e : s.heap.get? a = some oe) (z : Zc (.ref C) (some dd) oe) (d : oe.data = .fields vs) (np : ∀ p ∈ X.pn ++ pins, p.1 ≠ a) (nL : a ≠ X.env.locals) :
    Inv X pins σ (upd H a (exk a C dd)) s := by
  have old : ∀ {b o}, X.s_0.heap.get? b = some o → b ≠ a := fun {b o} q x => by rw [x, n0] at q; cases q
  have far : ∀ {b : Addr} {o : HO}, H b = some o → b ≠ a := fun {b o} q => ne_of_none q na
  refine ⟨I.ok, I.os, I.bare, ⟨I.base.keep, I.base.slot, fun b o q n x => by rw [upd_ne (old q)]; exact I.base.free b o q n x, I.base.there, fun b xs q => ?_, fun b o u q => ?_, fun b ps q => ?_⟩, I.loc, I.cell, by rw [upd_ne (Ne.symm nL)]; exact I.free, fun x c q => ?_, fun p hp => ?_, fun b u q => ?_, I.len⟩
  · have q := I.base.tups b xs q
    rw [upd_ne (far q)]; exact q
  · have q := I.base.frzs b o u q
    rw [upd_ne (far q)]; exact q
  · obtain ⟨m, q⟩ := I.base.tbls b ps q
    exact ⟨m, by rw [upd_ne (far q)]; exact q⟩
  · obtain ⟨v, o, ho, hv⟩ := I.cell x c q
    have ne : c ≠ a := fun z => by
      rw [z, e] at ho
      cases ho
      have hv' : oe.data = .cell v := hv
      rw [d] at hv'
      cases hv'
    rw [upd_ne ne]; exact I.freeC x c q
  · obtain ⟨h1, h2, h3⟩ := I.pin p hp
    exact ⟨h1, by rw [upd_ne (np p hp)]; exact h2, h3⟩
  · by_cases hb : b = a
    · subst hb
      rw [upd_same] at q
      cases q
      exact exk_ok e z d
    · rw [upd_ne hb] at q
      exact (I.hok b u q).stay (fun _ _ _ y => y) (fun c y => by rw [upd_ne (far y)]; exact y) fun c xs y => by rw [upd_ne (far y)]; exact y
end
def Hits (X : Cx) (tt : Expr) (cls : Value) : Prop := ∀ (a : Addr) (oe : Obj) (pn : List (Addr × Obj)) (σ : St) (H : Hp) (s : Shared) (Q : Value → Shared → Prop) (E : Value → Shared → Prop), Inv (X.suite a ((a, oe) :: pn)) [] σ H s → PySem.W.Looks (model X.prog X.w) s.heap (typeOf (.ref a)) cls →
  (∀ c h', (∀ b o, s.heap.get? b = some o → h'.get? b = some o) → PySem.W.Looks (model X.prog X.w) h' (excMatches (.ref a) c) true → Q c { s with heap := h' }) → wpAny (model X.prog X.w) (X.A.mark (some (.ref a))) (eval tt X.env) Q E s
def Named (X : Cx) (x : Str) (C : Addr) : Prop := Gl X x ∧ (x == ("__debug__" : Str)) = false ∧ X.mg x = some (.ref C)
section
variable {X : Cx} {cls : Value} {x1 x2 x3 x4 : Str} {C1 C2 C3 C4 : Addr} {p1 p2 p3 p4 tp : Pos} {kk : Nat}
theorem kpush {h : Heap} {ob : Obj} : ∀ b o, h.get? b = some o → (h.push ob).get? b = some o := fun _ _ q => Heap.get?_push_of_some _ q
theorem hits3 (n1 : Named X x1 C1) (n2 : Named X x2 C2) (n3 : Named X x3 C3) (h : PySem.W.exmAny X.K cls [.ref C1, .ref C2, .ref C3] = some true) : Hits X (.Tuple [.Name x1 p1, .Name x2 p2, .Name x3 p3] kk tp) cls := fun a oe pn σ H s Q E I LT k => by
  refine wpAny_Tuple (wpAny_items_cons (ld_glob (X := X.suite a ((a, oe) :: pn)) I n1.1 n1.2.2 ?_ n1.2.1))
  refine wpAny_items_cons (ld_glob (X := X.suite a ((a, oe) :: pn)) I n2.1 n2.2.2 ?_ n2.2.1)
  refine wpAny_items_cons (ld_glob (X := X.suite a ((a, oe) :: pn)) I n3.1 n3.2.2 ?_ n3.2.1)
  exact wpAny_items_nil ⟨by size_fits, k _ _ kpush (PySem.W.exm_tup3 (I.kIn.keeps kpush) (LT.keeps kpush) (Heap.get?_push_size s.heap rfl) h)⟩
end
theorem flying_kept {B h h' : Heap} {l : List Env} {a : Addr} {Z : Obj → Prop} (f : PySem.HandSPX.FlyingZ B l a Z h) (k : ∀ b o, h.get? b = some o → h'.get? b = some o) : PySem.HandSPX.FlyingZ B l a Z h' := by
  obtain ⟨f1, f2, f3, oe, vs, T, oT, ts, he, hz, hd, h1, hn, hne, hT, hdT, h3⟩ := f
  exact ⟨fun b o q => k b o (f1 b o q), f2, f3.of_keeps fun b o q _ => ⟨o, k b o q, rfl⟩, oe, vs, T, oT, ts, k _ _ he, hz, hd, h1, hn, hne, k _ _ hT, hdT, h3⟩
def wKeep (i j : Nat) (ok : Addr → Prop) (D : Ends) : WX := fun cls d σ H => ∃ C dd, cls = .ref C ∧ d = some dd ∧ ok C ∧ ∀ a, H a = none → D.nx (((σ.set i (some (.ref a))).set j (some (.ref a))).set i none) (upd H a (exk a C dd))
section
variable {X : Cx} {n y : Str} {i j : Nat} {tt : Expr} {body : List Stmt} {p1 p2 p3 pos pos' : Pos} {tb : WX → TS} {ok : Addr → Prop}
theorem ps_try_keep (hs : X.stack = X.env :: X.outer) (hf : X.env.frame = some X.env.locals) (hex : X.ex = []) (hN : X.N.Nodup) (hi : X.N[i]? = some n) (hj : X.N[j]? = some y) (hln : X.env.scope.names.lookup n = some .local) (hly : X.env.scope.names.lookup y = some .local)
    (hb : ∀ (W : WX) (pn : List (Addr × Obj)) (xe : Value → Shared → Prop), Takes (X.tr pn xe) W → PassesOwn (model X.prog X.w) X.A X.env xe → PSs (X.tr pn xe) body (tb W)) (hh : ∀ C, ok C → Hits X tt (.ref C))
    (sw : swapsWith (.Name n p2) (some (.Name y p1)) p3.line X.env = pure false := by rfl) (hd : (n == ("__debug__" : Str)) = false := by decide) (hcd : (n == ("__classdict__" : Str)) = false := by decide) :
    PS X (.Try body [.ExceptHandler (some tt) (some n) [.Assign [.Name y p1] (.Name n p2) p3] pos'] [] [] pos) (fun D σ H => tb (wKeep i j ok D) D σ H) := by
  refine ⟨fun pins s σ H D I h => ?_⟩
  have I0 := I
  have xok := I.ok
  have hfr : X.A.frames = some (X.env :: X.outer) := by rw [xok.frames, hs]
  refine wpAny_Try_except (wpAny_mono ((hb (wKeep i j ok D) (X.pn ++ pins) (fun e s₁ => wpAny (model X.prog X.w) X.A (noteFrame e X.env) (fun _ s₂ => wpAny (model X.prog X.w) X.A (setFlight e none) (fun _ s₃ =>
    wpAny (model X.prog X.w) X.A (handleBy e X.env [.ExceptHandler (some tt) (some n) [.Assign [.Name y p1] (.Name n p2) p3] pos']) (SP X pins D) X.xe s₃) X.xe s₂) X.xe s₁) (fun u s' xx => ?_) PassesOwn.looking).run [] s σ H D (I.toTry _) h) (fun f s1 hsp => ?_) (fun e s1 he => he))
  · obtain ⟨a, B, sI, pins', σ', H', cls, d, rfl, J', nb, up, sky, na, os, ag, C, dd, rfl, rfl, hC, go⟩ := xx
    have J : Inv X pins σ' H' sI := J'.ofTry xok
    have sky' : Sky B (X.env :: X.outer) a (Zc (.ref C) (some dd)) X.env.locals s'.heap := by rw [← hs]; exact sky
    have Bn : B.get? a = none := by
      rcases sky' with ⟨_, q, _⟩ | f | f
      · exact q
      · exact f.2.1
      · exact f.2.1
    show wpAny (model X.prog X.w) X.A (noteFrame (.ref a) X.env) _ _ _
    refine Sky.land Zc.steady hfr hf sky' fun h3 fl3 up3 => ?_
    have J3 : Inv X pins σ' H' { s' with heap := h3 } := J.landed nb fl3.1 (up.trans up3) os ag
    obtain ⟨oe3, vs3, he3, hz3, hd3⟩ := fl3.there
    have nfr : a ∉ frs (X.env :: X.outer) := fun hm => by
      obtain ⟨_, o', e', hnf⟩ := fl3.2.2.1.mem hm
      rw [he3] at e'; cases e'
      exact hnf _ hd3
    have nL : a ≠ X.env.locals := fun z => nfr (List.mem_filterMap.mpr ⟨X.env, List.mem_cons_self, by rw [hf, z]⟩)
    have nF : a ∉ X.fs := fun hm => by
      obtain ⟨e, he, q⟩ := List.mem_filterMap.mp hm
      exact nfr (List.mem_filterMap.mpr ⟨e, List.mem_cons_of_mem _ he, q⟩)
    have nI : sI.heap.get? a = none := by
      cases e : sI.heap.get? a with
      | none => rfl
      | some o =>
        have z := nb a o e (by rw [hs]; exact nfr)
        rw [Bn] at z; cases z
    have n0 : X.s_0.heap.get? a = none := by
      cases e : X.s_0.heap.get? a with
      | none => rfl
      | some o =>
        obtain ⟨o', z⟩ := J.base.there a o e (by rw [hex]; exact fun z => nomatch z)
        rw [nI] at z; cases z
    have np : ∀ p ∈ X.pn ++ pins, p.1 ≠ a := fun p hp z => by
      have q := (J.pin p hp).1
      rw [z, nI] at q; cases q
    have S3 := J3.suite he3 hd3 na nL nF
    refine wpAny_handleBy_cons (codeAny_handlers_test ?_) (by intro q; cases q)
    have LT : PySem.W.Looks (model X.prog X.w) h3 (typeOf (.ref a)) (.ref C) := fun A Q E s k q => wpAny_typeOf_ref (k _ _ he3) (by rw [hz3.1]; exact q)
    refine hh C hC a oe3 (X.pn ++ pins) σ' H' { s' with heap := h3 } _ _ S3 LT fun c h5 k5 LM => LM.here ?_
    have fl5 : PySem.HandSPX.FlyingZ B (X.env :: X.outer) a (Zc (.ref C) (some dd)) h5 := flying_kept fl3 k5
    have up5 : sI.heap.UpToSlots h5 := (up.trans up3).trans (Heap.UpToSlots.of_keeps k5)
    refine codeAny_handlers_suite_as ?_
    refine PySem.HandSPX.lands_againZ fl5 fun h4 fl4 up4 => ?_
    have J4 : Inv X pins σ' H' { s' with heap := h4 } := J.landed nb fl4.1 (up5.trans up4) os ag
    obtain ⟨oe4, vs4, he4, hz4, hd4⟩ := fl4.there
    have T4 := J4.track na n0 he4 hz4 hd4 np nL
    have ok4 : (X.suite a (X.pn ++ pins)).Ok := xok.suite _ _
    have S4 : Inv (X.suite a (X.pn ++ pins)) [] σ' (upd H' a (exk a C dd)) { s' with heap := h4 } := ⟨ok4, T4.os, T4.bare, T4.base, T4.loc, T4.cell, T4.free, T4.freeC, fun p hp => T4.pin p (by rw [List.append_nil] at hp; exact hp), T4.hok, T4.len⟩
    refine store_ok (X := X.suite a (X.pn ++ pins)) (v := .ref a) S4 hN hi (.inl hln) rfl (fun s5 S5 => ?_) (.inr hln)
    have lenI : i < σ'.length := by
      rw [J.len]
      have q : X.N[i]? = some n := hi
      exact (List.getElem?_eq_some_iff.mp q).1
    have st : PSs (X.suite a (X.pn ++ pins)) [.Assign [.Name y p1] (.Name n p2) p3] (tAsg (tVar i) (gName j)) := pss_one (ps_set (X := X.suite a (X.pn ++ pins)) hN hj (.inl hly) (pe_var hi (.inl hln) hd hcd) sw (.inr hly))
    refine wpAny_mono (st.run [] s5 _ _ { nx := fun σ6 H6 => D.nx (σ6.set i none) H6, rt := fun _ _ => False } S5 ⟨.ref a, List.getElem?_set_self lenI, go a na⟩) (fun f s6 hsp => ?_) (fun _ _ z => False.elim z)
    cases f with
    | next =>
      obtain ⟨σ6, H6, S6, q6⟩ := hsp
      have U6 : Inv X pins σ6 H6 s6 := ⟨xok, S6.os, S6.bare, S6.base, S6.loc, S6.cell, S6.free, S6.freeC, fun p hp => S6.pin p (by rw [List.append_nil]; exact hp), S6.hok, S6.len⟩
      exact gone_ok U6 hN hi hln fun s7 J7 => ⟨_, _, J7, q6⟩
    | brk => obtain ⟨_, _, _, q6⟩ := hsp; exact q6.elim
    | cont => obtain ⟨_, _, _, q6⟩ := hsp; exact q6.elim
    | ret u => obtain ⟨_, _, _, _, _, q6⟩ := hsp; exact q6.elim
  · cases f with
    | next => obtain ⟨σ', H', J', q⟩ := hsp; exact wpAny_execs_nil ⟨σ', H', J'.ofTry xok, q⟩
    | brk => obtain ⟨σ', H', J', q⟩ := hsp; exact ⟨σ', H', J'.ofTry xok, q⟩
    | cont => obtain ⟨σ', H', J', q⟩ := hsp; exact ⟨σ', H', J'.ofTry xok, q⟩
    | ret u => obtain ⟨v, σ', H', J', r, q⟩ := hsp; exact ⟨v, σ', H', J'.ofTry xok, r, q⟩
end
structure AskX (K : PySem.W.Frag) (C : Addr) : Prop where
  ga : PySem.W.findIn K (.ref C) "__getattribute__" = some (some (.builtin "BaseException.__getattribute__"))
  gg : PySem.W.findIn K (.ref C) "__getattr__" = some none
  ca : PySem.W.findIn K (.ref C) "__class__" = some (some (.builtin "object.__class__"))
  hn : PySem.W.specialIn K (.builtin "object.__class__") "__get__" = some (some (.builtin "getset_descriptor.__get__"))
  ht : PySem.W.takesIn K (.builtin "object.__class__") = some true
section
variable {K : PySem.W.Frag} {C : Addr} {nw : String} {tl : List Value}
theorem OwnX.cd (T : OwnX K C nw tl) : ∃ cd, PySem.W.clsIn K C = some cd ∧ cd.mro = .ref C :: tl ∧ cd.hasDict = true := by
  obtain ⟨nm, q, N, bs, sn, sub, ab, col, dd, k0, k1, k2, k3, k5, hC⟩ := T.cls
  exact ⟨{ name := nm, bases := bs, mro := .ref C :: tl, ns := N, qualname := q, hasDict := true, slotNames := sn, subclasses := sub, abstract := ab, collection := col, hasDel := false }, by unfold PySem.W.clsIn; rw [hC] <;> rfl, rfl, rfl⟩
theorem OwnX.mro (T : OwnX K C nw tl) (b : Value) : PySem.W.mroIn K C b = some ((.ref C == b) || tl.contains b) := by
  obtain ⟨cd, h1, h2, _⟩ := T.cd
  unfold PySem.W.mroIn
  rw [h1, Option.bind_some, h2, if_neg (by simp), List.contains_cons]
  cases h : (Value.ref C == b) with
  | true => rw [beq_iff_eq.mp h]; simp
  | false =>
    have : (b == Value.ref C) = false := by
      cases q : (b == Value.ref C) with
      | false => rfl
      | true => rw [← beq_iff_eq.mp q] at h; simp at h
    rw [this]
end
def rIsX (K : PySem.W.Frag) : List V → Hp → VK → Prop := fun xs H Q => ∃ (a C dd : Addr) (fs : List (Str × V)) (nw : String) (tl : List Value) (c : V) (u : Value) (b : Bool), xs = [.ref a, c] ∧ H a = some (exk a C dd) ∧ H dd = some (.xd fs) ∧ OwnX K C nw tl ∧ tl.contains (.type "object") = true ∧ AskX K C ∧ ClsV c u ∧ PySem.W.kitOne K (.ref C) u = some b ∧ Q (.bl b) H
def rIsXT (K : PySem.W.Frag) : List V → Hp → VK → Prop := fun xs H Q => ∃ (a C dd tp : Addr) (fs : List (Str × V)) (nw : String) (tl : List Value) (cs : List V) (us : List Value) (b : Bool), xs = [.ref a, .ref tp] ∧ H a = some (exk a C dd) ∧ H dd = some (.xd fs) ∧ OwnX K C nw tl ∧ tl.contains (.type "object") = true ∧ AskX K C ∧
  H tp = some (.tup cs) ∧ Paired ClsV cs us ∧ PySem.W.kitAny K (.ref C) us = some b ∧ Q (.bl b) H
section
variable {X : Cx}
theorem exk_inst {pins : List (Addr × Obj)} {σ : St} {H : Hp} {s : Shared} {a C dd : Addr} {fs : List (Str × V)} (I : Inv X pins σ H s) (ea : H a = some (exk a C dd)) (ed : H dd = some (.xd fs)) :
    ∃ oe od, PySem.W.InstAt s.heap a oe C (some od) ∧ ∃ mA : Str → Option Value, (∀ name, PySem.W.lookIn name od = some (mA name)) ∧ ∀ f, RelO (fs.lookup f) (mA f) := by
  obtain ⟨oe, vs, ho, hc, hdict, hd⟩ := exk_at I.hok ea
  have hx : ObjOk X.prog X.w H s.heap dd (.xd fs) := I.hok dd _ ed
  obtain ⟨mA, hns, hr⟩ := hx
  obtain ⟨od, hod, hl⟩ := lookIn_ns hns
  exact ⟨oe, od, ⟨ho, hc, by unfold PySem.W.notCls; rw [hd] <;> rfl, by rw [hdict]; exact hod⟩, mA, hl, hr⟩
theorem exk_kit {K : PySem.W.Frag} {a C : Addr} {oe od : Obj} {nw : String} {tl : List Value} (T : OwnX K C nw tl) (hob : tl.contains (.type "object") = true) (A : AskX K C) : PySem.W.KitX K (.ref a) (.ref C) (fun h => PySem.W.InstAt h a oe C (some od)) := by
  obtain ⟨cd, h1, _, _⟩ := T.cd
  exact PySem.W.kitx_exc (by rw [h1]; rfl) A.ga A.gg T.exC A.ca A.hn A.ht (by rw [T.mro, hob, Bool.or_true])
theorem call_isX : CallR X (.builtin "isinstance") (rIsX X.K) := by
  intro pins s σ H xs us Q I r h
  obtain ⟨a, C, dd, fs, nw, tl, c, u, b, rfl, ea, ed, T, hob, A, k, e, q⟩ := h
  obtain ⟨u1, u2, rfl, r1, r2⟩ := vals2 r
  cases (show u1 = Value.ref a from r1)
  have e2 := k.eq r2
  subst e2
  obtain ⟨oe, od, J, _⟩ := exk_inst I ea ed
  exact PySem.W.kia_one (exk_kit T hob A) I.kIn J e (fun z => nomatch z) fun tk => ⟨.bl b, H, I.tok tk, rfl, q⟩
theorem call_isXT : CallR X (.builtin "isinstance") (rIsXT X.K) := by
  intro pins s σ H xs us Q I r h
  obtain ⟨a, C, dd, tp, fs, nw, tl, cs, ws, b, rfl, ea, ed, T, hob, A, hT, k, e, q⟩ := h
  obtain ⟨u1, u2, rfl, r1, r2⟩ := vals2 r
  cases (show u1 = Value.ref a from r1)
  cases (show u2 = Value.ref tp from r2)
  obtain ⟨oe, od, J, _⟩ := exk_inst I ea ed
  obtain ⟨_, its, rv, o, h1, h2, n, h3⟩ := (show ObjOk X.prog X.w H s.heap tp (.tup cs) from I.hok tp _ hT)
  have e3 := ClsV.all k rv
  subst e3
  obtain ⟨oc, odd, dt, sl⟩ := o
  simp only at h2 h3
  subst h2 h3
  exact PySem.W.kia_tup (exk_kit T hob A) I.kIn J h1 e (fun z => nomatch z) fun tk => ⟨.bl b, H, I.tok tk, rfl, q⟩
def tXfk (K : PySem.W.Frag) (f : Str) (te : TE) : TE := fun σ H Q => te σ H fun x H1 => ∃ (a C dd : Addr) (fs : List (Str × V)) (nw : String) (tl : List Value) (v : V), x = .ref a ∧ H1 a = some (exk a C dd) ∧ H1 dd = some (.xd fs) ∧ OwnX K C nw tl ∧ AskX K C ∧ PySem.W.findIn K (.ref C) f = some none ∧ fs.lookup f = some v ∧ Q v H1
theorem pe_xfk {e : Expr} {te : TE} {pos : Pos} {f : Str} (he : PE X e te) (hb : attributeBase e f X.env (eval e X.env) = eval e X.env := by rfl) : PE X (.Attribute e f pos) (tXfk X.K f te) := by
  refine ⟨fun pins s σ H Q I h => ?_⟩
  refine attr_of hb (thn (he.run pins s σ H _ I h) fun u s1 ⟨x, H1, I1, rx, a, C, dd, fs, nw, tl, v, ex, ea, ed, T, A, hno, l, q⟩ => ?_)
  subst ex
  cases (show u = Value.ref a from rx)
  obtain ⟨oe, od, J, mA, hl, hr⟩ := exk_inst I1 ea ed
  obtain ⟨u, hu, ru⟩ := RelO.some_of (v := v) (o := mA f) (by rw [← l]; exact hr f)
  obtain ⟨cd, h1, _, h3⟩ := T.cd
  exact PySem.HandSPX.exc_get I1.kIn J A.ga A.gg T.exC (PySem.W.findObj_own (by unfold PySem.W.hasDictIn; rw [h1]; exact h3) hno rfl (by rw [hl, hu])) (handed_of ru) ⟨v, H1, I1.tok _, ru, q⟩
end
end L2
namespace Pl
open PySem PySem.Spec PyProof.Rows L2
section
variable [TJ]
structure XD where
  c : Str
  y : D
abbrev unl : Str := "Unlike 0"
def XRep (K : PySem.W.Frag) (F : Hp) (cls : Value) (d : Option Addr) (x : XD) : Prop := ∃ C : Addr, cls = .ref C ∧
  ((x.c ≠ unl ∧ PySem.W.nsIn K mainGlobals x.c = some (some (.ref C)) ∧ ∃ (dd : Addr) (v : V), d = some dd ∧ F dd = some (.xd [(xfield x.c, v)]) ∧ Rep K F v x.y) ∨ (x.c = unl ∧ PySem.W.nsIn K mainGlobals "Unlike" = some (some (.ref C)) ∧ d = none))
theorem XRep.mono {K : PySem.W.Frag} {F F' : Hp} {cls : Value} {d : Option Addr} {x : XD} (e : Same F F') (h : XRep K F cls d x) : XRep K F' cls d x := by
  obtain ⟨C, h2, ⟨hc, h1, dd, v, h3, h4, h5⟩ | h3⟩ := h
  · exact ⟨C, h2, .inl ⟨hc, h1, dd, v, h3, e _ _ h4, h5.mono e⟩⟩
  · exact ⟨C, h2, .inr h3⟩
abbrev XP := XD → Ro → Prop
def XRel (K : PySem.W.Frag) (W : WX) (G F : Hp) (xx : XP) : Prop := ∀ F' H' σ' ρ' cls d x, Up G F F' → Sim K G F' H' σ' ρ' → XRep K F' cls d x → xx x ρ' → W cls d σ' H'
theorem XRel.mono {K : PySem.W.Frag} {W : WX} {G F F1 : Hp} {xx : XP} (h : XRel K W G F xx) (u : Up G F F1) : XRel K W G F1 xx := fun F' H' σ' ρ' cls d x v => h F' H' σ' ρ' cls d x (u.trans v)
theorem Sim.grow {K : PySem.W.Frag} {G F H F' H' : Hp} {σ : L2.St} {ρ : Ro} (S : Sim K G F H σ ρ) (u : Up G F F') (hF : Same F' H') (hH : Same H H') (fr : ∀ a o, H a = some o → Mut o → F a = none → F' a = none) (nw : ∀ b o, F' b = some o → F b = some o ∨ H b = none) : Sim K G F' H' σ ρ :=
  ⟨hF, S.hG.up hH nw, S.len, fun i d h => by
    obtain ⟨w, h1, h2⟩ := S.val i d h
    exact ⟨w, h1, h2.mono u.ex⟩, fun i a xs h => by
    obtain ⟨h1, h2, h3, vs, h4, h5⟩ := S.own i a xs h
    exact ⟨h1, fr a _ h4 trivial h2, h3, vs, hH _ _ h4, h5.mono u.ex⟩, S.ne, S.bx.heap u.ex fun p m => let ⟨f, g, _⟩ := S.bx.free m; let ⟨o, e, mo⟩ := S.bx.mut m; ⟨fr p o e mo f, g, (hH _ _ e).trans e.symm⟩⟩
abbrev TXe := Ro → XP → Prop
def SndX (K : PySem.W.Frag) (W : WX) (t : TE) (T : TXe) : Prop := ∀ (G F H : Hp) (σ : L2.St) (ρ : Ro) (xx : XP) (R : VK), Sim K G F H σ ρ → T ρ xx → XRel K W G F xx → t σ H R
def SndXI (K : PySem.W.Frag) (W : WX) (t : TI) (T : TXe) : Prop := ∀ (G F H : Hp) (σ : L2.St) (ρ : Ro) (xx : XP) (R : It → Hp → Prop), Sim K G F H σ ρ → T ρ xx → XRel K W G F xx → t σ H R
structure PXE (X : Cx) (W : WX) (e : Expr) (t : TE) (T : TXe) : Prop where
  pe : PE X e t
  snd : SndX X.K W t T
structure PXI (X : Cx) (W : WX) (tg iter : Expr) (t : TI) (T : TXe) : Prop where
  pi : PI X tg iter t
  snd : SndXI X.K W t T
abbrev FX := List D → (XD → Prop) → Prop
def spX (K : PySem.W.Frag) (n : Nat) (g : FX) : Sp := fun vs H _ E => ∃ (F : Hp) (ds : List D) (C : XD → Prop), vs.length = n ∧ Same F H ∧ Reps K F vs ds ∧ g ds C ∧
  ∀ x cls d F' H', Up H F F' → Same F' H' → Same H H' → XRep K F' cls d x → C x → E cls d H'
section
variable {X : Cx} {W : WX} {k : Nat} {f : Addr} {fd : FuncData} {ps : List Str} {x : Str} {p pos : Pos} {e a b c : Expr} {es : List Expr} {t ta' : TA} {T : TAp} {n : Nat} {te ta tb : TE} {Te Ta Tb U : TEp} {Xe Xa Xb : TXe}
def xCall (n : Nat) (g : FX) (T : TAp) : TXe := fun ρ xx => T ρ fun ds ρ1 => ds.length = n ∧ g ds fun x => xx x ρ1
theorem pxe_call {g : FX} (Fn : FnOk X.prog X.w X.K X.mg X.base (L2.CX X.prog X.w) k f fd ps (spX X.K n g)) (tk : Takes X W) (hr : Room k X.A) (hg : Gl X x) (hm : X.mg x = some (.ref f)) (hk : PySem.W.keepIn X.K (.ref f) = true) (hb : Binds X.K fd ps []) (ha : PPA X (e :: es) t T)
    (hdb : (x == ("__debug__" : Str)) = false := by decide) (he : starEach (e :: es) X.env = (false, eval e X.env) :: starEach es X.env := by rfl) (hpl : (backTo pos (starEach es X.env)).any (·.1) = false := by rfl) :
    PXE X W (.Call (.Name x p) (e :: es) [] pos) (tCallSD (spX X.K n g) [] (WE W) t) (xCall n g T) := ⟨pe_callSD Fn hr hg hm hk hb .nil (passAt tk) ha.pa hdb he hpl, fun G F H σ ρ xx R S hT hx =>
  ha.snd G F H σ ρ _ _ S hT fun vs ds F1 H1 ρ1 u1 S1 r1 h1 => by
    show spX X.K n g (vs ++ []) H1 R _
    rw [List.append_nil]
    refine ⟨F1, ds, _, by rw [r1.length]; exact h1.1, S1.hF, r1, h1.2, fun x cls d F' H' u hF hH xr q => ?_⟩
    have u' : Up G F1 F' := u.less S1.hG
    exact hx F' H' σ ρ1 cls d x (u1.trans u') (S1.grow u' hF hH (fun a o ha _ hf => u.isNone hf ha) u.out) xr q⟩
theorem pxe_rev {k : Nat} {p1 p2 p3 : Pos} (ha : PXE X W a ta Xa) : PXE X W (.Subscript a (.Slice none none (some (.UnaryOp .USub (.Constant (.int 1) k p1) p2)) p3) pos) (tRevA X.K ta) Xa := ⟨pe_revA ha.pe, fun G F H σ ρ xx R S hT hx => ha.snd G F H σ ρ xx _ S hT hx⟩
theorem pxi_seq {tg l : Expr} {tl : TE} (hl : PXE X W l tl Xe) : PXI X W tg l (iAny X.K tl) Xe := ⟨pi_any hl.pe, fun G F H σ ρ xx R S hT hx => hl.snd G F H σ ρ xx _ S hT hx⟩
end
abbrev TXs := PEnds → XP → Ro → Prop
def SndXS (K : PySem.W.Frag) (W : WX) (t : TS) (T : TXs) : Prop := ∀ (G F H : Hp) (σ : L2.St) (ρ : Ro) (P : PEnds) (D : Ends) (xx : XP), Sim K G F H σ ρ → T P xx ρ → ERel K G F P D → XRel K W G F xx → t D σ H
structure PXS (X : Cx) (W : WX) (st : Stmt) (t : TS) (T : TXs) : Prop where
  ps : PS X st t
  snd : SndXS X.K W t T
structure PXSs (X : Cx) (W : WX) (st : List Stmt) (t : TS) (T : TXs) : Prop where
  ps : PSs X st t
  snd : SndXS X.K W t T
def liftXS (K : PySem.W.Frag) (W : WX) (T : TXs) : TS := fun D σ H => ∃ (G F : Hp) (ρ : Ro) (P : PEnds) (xx : XP), Sim K G F H σ ρ ∧ T P xx ρ ∧ ERel K G F P D ∧ XRel K W G F xx
section
variable {X : Cx} {W : WX} {st : Stmt} {rest : List Stmt} {t u : TS} {T : TSp} {U V' : TXs} {e : Expr} {te : TE} {Te : TEp} {Xe : TXe} {pos : Pos}
theorem PXSs.lift (h : PXSs X W rest t U) : PXSs X W rest (liftXS X.K W U) U :=
  ⟨⟨fun pins s σ H D I ⟨G, F, ρ, P, xx, S, hT, r, hx⟩ => h.ps.run pins s σ H D I (h.snd G F H σ ρ P D xx S hT r hx)⟩, fun G F H σ ρ P D xx S hT r hx => ⟨G, F, ρ, P, xx, S, hT, r, hx⟩⟩
def xOk (T : TSp) : TXs := fun P _ ρ => T P ρ
theorem pxs_ok (h : PPS X st t T) : PXS X W st t (xOk T) := ⟨h.ps, fun G F H σ ρ P D xx S hT r _ => h.snd G F H σ ρ P D S hT r⟩
def xOr (T : TSp) (U : TXs) : TXs := fun P xx ρ => T P ρ ∨ U P xx ρ
theorem pxs_or (h : PPS X st t T) (h2 : PXS X W st u U) : PXS X W st (fun D σ H => t D σ H ∨ u D σ H) (xOr T U) :=
  ⟨⟨fun pins s σ H D I q => q.elim (h.ps.run pins s σ H D I) (h2.ps.run pins s σ H D I)⟩, fun G F H σ ρ P D xx S hT r hx => hT.elim (fun q => .inl (h.snd G F H σ ρ P D S q r)) fun q => .inr (h2.snd G F H σ ρ P D xx S q r hx)⟩
def xNext : TXs := fun P _ ρ => P.nx ρ
def xSeq (U V : TXs) : TXs := fun P xx ρ => U { P with nx := V P xx } xx ρ
theorem pxss_nil : PXSs X W [] tNext xNext := ⟨pss_nil, fun G F H σ ρ P D xx S h r _ => r.nx F H σ ρ (.refl _ _) S h⟩
theorem pxss_one (h : PXS X W st t U) : PXSs X W [st] t U := ⟨pss_one h.ps, h.snd⟩
theorem pxss_cons (h1 : PXS X W st t U) (h2 : PXSs X W rest u V') : PXSs X W (st :: rest) (tSeq t u) (xSeq U V') := ⟨pss_cons h1.ps h2.ps, fun G F H σ ρ P D xx S h r hx =>
  h1.snd G F H σ ρ _ _ xx S h ⟨fun F' H' σ' ρ' u S' q => h2.snd G F' H' σ' ρ' P D xx S' q (r.mono u) (hx.mono u), r.rt, r.bk, r.ct⟩ hx⟩
def xIfS (C : TTp) (U V : TXs) : TXs := fun P xx ρ => C ρ fun b ρ1 => if b = true then U P xx ρ1 else V P xx ρ1
theorem pxs_if {c : Expr} {a b : List Stmt} {tc : TT} {C : TTp} (hc : PPT X c tc C) (ha : PXSs X W a t U) (hb : PXSs X W b u V') : PXS X W (.If c a b pos) (tIfS tc t u) (xIfS C U V') := ⟨ps_if hc.pt ha.ps hb.ps, fun G F H σ ρ P D xx S h r hx =>
  hc.snd G F H σ ρ _ _ S h fun b F' H' ρ' u S' q => by
    cases b with
    | true => exact ite_ti (ha.snd G F' H' σ ρ' P D xx S' (ite_t q) (r.mono u) (hx.mono u))
    | false => exact ite_fi (hb.snd G F' H' σ ρ' P D xx S' (ite_f q) (r.mono u) (hx.mono u))⟩
def xE (Xe : TXe) : TXs := fun _ xx ρ => Xe ρ xx
theorem pxs_expr (he : PXE X W e te Xe) (hs : swapsWith e none pos.line X.env = pure false := by rfl) : PXS X W (.Expr e pos) (tDrop te) (xE Xe) := ⟨ps_expr he.pe hs, fun G F H σ ρ P D xx S h r hx => he.snd G F H σ ρ xx _ S h hx⟩
theorem pxs_set {i : Nat} {x : Str} {pos' : Pos} (hN : X.N.Nodup) (he : PXE X W e te Xe) (hi : X.N[i]? = some x := by rfl) (hx : Loc X.env.scope x := by first | exact Or.inl rfl | exact Or.inr rfl) (hs : swapsWith e (some (.Name x pos')) pos.line X.env = pure false := by rfl) (hf : X.fn x = true ∨ X.env.scope.names.lookup x = some .local := by first | exact .inl rfl | exact .inr rfl | assumption) :
    PXS X W (.Assign [.Name x pos'] e pos) (tAsg te (gName i)) (xE Xe) := ⟨ps_set hN hi hx he.pe hs hf, fun G F H σ ρ P D xx S h r hx => he.snd G F H σ ρ xx _ S h hx⟩
theorem pxs_forX {tg iter : Expr} {body : List Stmt} {wi : TI} {Xi : TXe} {g : TG} {Gp : TGp} {is : List Nat} {tb : TS} {Tb : TSp} (hp : PassesOwn (model X.prog X.w) X.A X.env X.xe) (hc : X.calm = true) (hi : PXI X W tg iter wi Xi) (hg : PTg X tg g Gp is) (hb : PPSs X body tb Tb)
    (hs : ∀ x, foldedSetIterable iter X.env x = pure x := by intro _; rfl) : PXS X W (.For tg iter body [] pos) (tFor wi g tb) (xE Xi) := ⟨ps_for hp hc hi.pi hg.pg hb.ps hs, fun G F H σ ρ P D xx S h r hx => hi.snd G F H σ ρ xx _ S h hx⟩
end
def spI (K : PySem.W.Frag) (c : Str) (C : Addr) (ok : D → Prop) : Sp := fun vs H Q _ => ∃ (F : Hp) (a : Addr) (v : V) (d : D), vs = [.ref a, v] ∧ H a = some (exo a C none) ∧ F a = none ∧ Same F H ∧ Rep K F v d ∧ ok d ∧
  ∀ (dd : Addr) (v' : V) (F' H' : Hp), H' a = some (exo a C (some dd)) → H' dd = some (exd dd [(xfield c, v')]) → H dd = none → dd ≠ a → Up H F F' → F' dd = none → (∀ b o, b ≠ a → F' b = some o → H' b = some o) → (∀ b o, b ≠ a → H b = some o → H' b = some o) → Rep K F' v' d → Q .non H'
section
variable {X : Cx} {W : WX} {x : Str} {C fI : Addr} {k : Nat} {fd : FuncData} {ps : List Str} {ok : D → Prop} {e : Expr} {ta : TA} {Ta : TAp} {p pos pos2 : Pos} {newId initId B : String} {tl : List Value}
def xRaise (c : Str) (ok : D → Prop) (T : TAp) : TXs := fun _ xx ρ => T ρ fun ds ρ1 => match ds with | [d] => ok d ∧ xx ⟨c, d⟩ ρ1 | _ => False
theorem pxs_raise (hc : X.calm = true) (tk : Takes X W) (O : PySem.OEY.Over B newId initId tl) (T : OwnX X.K C newId tl) (hns : PySem.W.nsIn X.K mainGlobals x = some (some (.ref C))) (iC : PySem.W.findIn X.K (.ref C) "__init__" = some (some (.ref fI))) (tI : PySem.W.typeIn X.K (.ref fI) = some (.type "function"))
    (F1 : FnOk X.prog X.w X.K X.mg X.base CX0 k fI fd ps (spI X.K x C ok)) (hr : Room (k + 1) X.A) (hb : Binds X.K fd ps []) (hg : Gl X x) (hm : X.mg x = some (.ref C)) (ha : PPA X [e] ta Ta)
    (hdb : (x == ("__debug__" : Str)) = false := by decide) (he : starEach [e] X.env = (false, eval e X.env) :: starEach [] X.env := by rfl) (hpl : (backTo pos (starEach [] X.env)).any (·.1) = false := by rfl) (hU : x ≠ unl := by decide) :
    PXS X W (.Raise (some (.Call (.Name x p) [e] [] pos)) none pos2) (fun _ σ H => tMkO C (spI X.K x C ok) [] ta σ H fun cls d H' => W cls d σ H') (xRaise x ok Ta) :=
  ⟨ps_raise hc tk (pmk_oy O T iC tI F1 hr hb .nil pass0 hg hm ha.pa hdb he hpl), fun G F H σ ρ P D xx S hT r hx =>
    ha.snd G F H σ ρ _ _ S hT fun vs ds F1 H1 ρ1 u1 S1 r1 h1 => by
      match ds, r1, h1 with
      | [d], .cons (v := v) rv .nil, h1 =>
        refine ⟨(by show (1 : Nat) ≤ 1000; decide), fun a na => ?_⟩
        have fa : F1 a = none := S1.freshF na
        refine ⟨F1, a, v, d, rfl, upd_same, fa, fun b o q => ?_, rv, h1.1, fun dd v' F' H' ea ed hd ne up fd' sF sH rp => ?_⟩
        · rw [upd_ne (ne_of_none (S1.hF _ _ q) na)]; exact S1.hF _ _ q
        have H1d : H1 dd = none := by rw [upd_ne ne] at hd; exact hd
        have F'a : F' a = none := up.isNone fa upd_same
        refine ⟨rfl, dd, _, ea, ed, H1d, ?_⟩
        have hH : Same H1 (upd (del H' a) dd (.xd [(xfield x, v')])) := fun b o q => by
          have n1 : b ≠ a := ne_of_none q na
          have n2 : b ≠ dd := ne_of_none q H1d
          rw [upd_ne n2, del_ne n1]
          exact sH b o n1 (by rw [upd_ne n1]; exact q)
        have sm : Same F' (upd F' dd (.xd [(xfield x, v')])) := same_new fd'
        have hF : Same (upd F' dd (.xd [(xfield x, v')])) (upd (del H' a) dd (.xd [(xfield x, v')])) := fun b o q => by
          by_cases n2 : b = dd
          · subst n2; rw [upd_same] at q ⊢; exact q
          · rw [upd_ne n2] at q ⊢
            have n1 : b ≠ a := ne_of_none q F'a
            rw [del_ne n1]
            exact sF b o n1 q
        have u2 : Up G F1 (upd F' dd (.xd [(xfield x, v')])) := ⟨up.ex.trans sm, fun b o q => by
          by_cases n2 : b = dd
          · subst n2; exact .inr (S1.freshG H1d)
          · rw [upd_ne n2] at q
            rcases up.out b o q with z | z
            · exact .inl z
            · by_cases n1 : b = a
              · rw [n1, F'a] at q; cases q
              · rw [upd_ne n1] at z; exact .inr (S1.freshG z)⟩
        refine hx _ _ σ ρ1 _ _ ⟨x, d⟩ (u1.trans u2) (S1.grow u2 hF hH (fun b us hb _ hf => ?_) fun b o q => ?_) ⟨C, rfl, .inl ⟨hU, hns, dd, v', rfl, upd_same, rp.mono sm⟩⟩ h1.2
        · have n2 : b ≠ dd := ne_of_none hb H1d
          have n1 : b ≠ a := ne_of_none hb na
          rw [upd_ne n2]
          exact up.isNone hf (by rw [upd_ne n1]; exact hb)
        · by_cases n2 : b = dd
          · subst n2; exact .inr H1d
          · rw [upd_ne n2] at q
            rcases up.out b o q with z | z
            · exact .inl z
            · by_cases n1 : b = a
              · subst n1; rw [F'a] at q; cases q
              · rw [upd_ne n1] at z; exact .inr z
      | [], _, h1 => exact h1.elim
      | _ :: _ :: _, _, h1 => exact h1.elim⟩
end
section
variable {X : Cx} {n y : Str} {i j : Nat} {tt : Expr} {body : List Stmt} {p1 p2 p3 pos pos' : Pos} {T : TXs} {cs : List Str}
def pTry (i j : Nat) (cs : List Str) (T : TXs) : TSp := fun P ρ => T P (fun x ρ' => x.c ∈ cs ∧ P.nx (((ρ'.set i (some (.val (.exc x.c x.y)))).set j (some (.val (.exc x.c x.y)))).set i none)) ρ
theorem pps_try (hs : X.stack = X.env :: X.outer) (hf : X.env.frame = some X.env.locals) (hex : X.ex = []) (hN : X.N.Nodup) (hi : X.N[i]? = some n) (hj : X.N[j]? = some y) (hln : X.env.scope.names.lookup n = some .local) (hly : X.env.scope.names.lookup y = some .local)
    (hb : ∀ (W : WX) (pn : List (Addr × Obj)) (xe : Value → Shared → Prop), Takes (X.tr pn xe) W → PassesOwn (model X.prog X.w) X.A X.env xe → PXSs (X.tr pn xe) W body (liftXS X.K W T) T)
    (hh : ∀ C, (∃ c ∈ cs, PySem.W.nsIn X.K mainGlobals c = some (some (.ref C))) → Hits X tt (.ref C))
    (sw : swapsWith (.Name n p2) (some (.Name y p1)) p3.line X.env = pure false := by rfl) (hd : (n == ("__debug__" : Str)) = false := by decide) (hcd : (n == ("__classdict__" : Str)) = false := by decide) (hU : unl ∉ cs := by decide) :
    PPS X (.Try body [.ExceptHandler (some tt) (some n) [.Assign [.Name y p1] (.Name n p2) p3] pos'] [] [] pos) (fun D σ H => liftXS X.K (wKeep i j (fun C => ∃ c ∈ cs, PySem.W.nsIn X.K mainGlobals c = some (some (.ref C))) D) T D σ H) (pTry i j cs T) :=
  ⟨ps_try_keep (tb := fun W => liftXS X.K W T) hs hf hex hN hi hj hln hly (fun W pn xe tk po => (hb W pn xe tk po).ps) hh sw hd hcd, fun G F H σ ρ P D S hT r => by
    refine ⟨G, F, ρ, P, _, S, hT, r, fun F' H' σ' ρ' cls d x u S' xr q => ?_⟩
    obtain ⟨C, h2, h⟩ := xr
    obtain ⟨h1, dd, v, h3, h4, h5⟩ : PySem.W.nsIn X.K mainGlobals x.c = some (some (.ref C)) ∧ ∃ (dd : Addr) (v : V), d = some dd ∧ F' dd = some (.xd [(xfield x.c, v)]) ∧ Rep X.K F' v x.y := by
      rcases h with h | h
      · exact h.2
      · exact absurd (h.1 ▸ q.1) hU
    refine ⟨C, dd, h2, h3, ⟨x.c, q.1, h1⟩, fun a na => ?_⟩
    have fa : F' a = none := S'.freshF na
    have S1 := S'.new (o := exk a C dd) na
    have rp : Rep X.K (upd F' a (exk a C dd)) (.ref a) (.exc x.c x.y) := .exc h1 upd_same (by rw [upd_ne (ne_of_none h4 fa)]; exact h4) (h5.mono (same_new fa))
    exact r.nx _ _ _ _ (u.trans (S'.upNew na)) (((S1.setVal i rp).setVal j rp).forget i none) q.2⟩
end
end
section
variable {P : Program} {w : World} {K : PySem.W.Frag} {mg : Str → Option Value} {base : Heap} {x qual : Str} {st : Stmt} {f : Addr} {fd : FuncData} {N ps : List Str} {k : Nat}
theorem okX {g : FX} {T : TXs} (Fn : Fun K x qual st f fd) (S : FnScope N ps (defScope st))
    (hb : ∀ (cdv : Value) (A : Around) (outer : List Env) (s : Shared) (H : Hp) (E : XK), Room k (A.deeper (envOfC qual (defScope st) s.heap.objs.size f cdv)) → ∃ t, PXSs (cxOf (L2.CX P w) P w K mg base N qual (defScope st) f cdv A outer s H E) (fun cls d _ H => E cls d H) (defBody st) t T)
    (hT : ∀ ds C, ds.length = ps.length → g ds C → T { nx := fun _ => False, rt := fun _ _ => False } (fun x _ => C x) (startA N ds)) : FnOk P w K mg base (L2.CX P w) (k + 1) f fd ps (spX K ps.length g) := by
  refine Fn.okX S (fun vs H Q E h => ?_) (fun cdv A outer s H vs Q E hr h => ?_)
  · obtain ⟨F, ds, C, hl, _⟩ := h
    exact hl
  · obtain ⟨F, ds, C, hl, hF, r, hg, hQ⟩ := h
    obtain ⟨t, ht⟩ := hb cdv A outer s H E hr
    refine ⟨t, ht.ps, ?_⟩
    have S0 : Sim K H F H (L2.start N vs) (startA N ds) := by
      unfold L2.start startA
      rw [r.length]
      exact sim_vals hF (.rfl' F H) r _
    exact ht.snd H F H _ _ _ _ _ S0 (hT ds C (by rw [← r.length]; exact hl) hg) ⟨fun _ _ _ _ _ _ q => q.elim, fun _ _ _ _ _ _ _ _ q => q.elim, fun _ _ _ _ _ _ q => q, fun _ _ _ _ _ _ q => q⟩
      fun F' H' σ' ρ' cls d x u S' xr q => hQ x cls d F' H' u S'.hF S'.hG xr q
end
end Pl
namespace Pl
open PySem PySem.Spec PyProof.Rows L2
variable [TJ]
def liftI (K : PySem.W.Frag) (T : TAp) : TI := fun σ H R => ∃ (G F : Hp) (ρ : Ro) (Q : List D → Ro → Prop), Sim K G F H σ ρ ∧ T ρ Q ∧ ∀ J ds F' H' ρ', Up G F F' → Sim K G F' H' σ ρ' → ItRep K J F' ds → Q ds ρ' → R J H'
theorem PPI.lift {X : Cx} {tg iter : Expr} {wi : TI} {T : TAp} (h : PPI X tg iter wi T) : PPI X tg iter (liftI X.K T) T :=
  ⟨⟨fun pins s σ H R I ⟨G, F, ρ, Q', S, hT, k⟩ => h.pi.run pins s σ H R I (h.snd G F H σ ρ Q' R S hT k)⟩, fun G F H σ ρ Q R S hT k => ⟨G, F, ρ, Q, S, hT, k⟩⟩
end Pl
namespace Pl
open PySem PySem.Spec PyProof.Rows L2
mutual
def noL : D → Bool
  | .non => true
  | .bl _ => true
  | .int _ => true
  | .str _ => true
  | .tup xs => noLs xs
  | _ => false
def noLs : List D → Bool
  | [] => true
  | x :: xs => noL x && noLs xs
end
section
variable {K : PySem.W.Frag} {F F' : Hp}
mutual
theorem Rep.noDrop (e : ∀ b xs, F b = some (.tup xs) → F' b = some (.tup xs)) : ∀ {v : V} {d : D}, Rep K F v d → noL d = true → Rep K F' v d
  | _, _, .non, _ => .non
  | _, _, .bl b, _ => .bl b
  | _, _, .int i, _ => .int i
  | _, _, .str x, _ => .str x
  | _, _, .tup h r, n => .tup (e _ _ h) (Reps.noDrop e r n)
  | _, _, .lst _ _, n => by cases n
  | _, _, .scr _, n => by cases n
  | _, _, .adr _, n => by cases n
  | _, _, .exc _ _ _ _, n => by cases n
theorem Reps.noDrop (e : ∀ b xs, F b = some (.tup xs) → F' b = some (.tup xs)) : ∀ {vs : List V} {ds : List D}, Reps K F vs ds → noLs ds = true → Reps K F' vs ds
  | _, _, .nil, _ => .nil
  | _, _, .cons h r, n => by
    rw [noLs, Bool.and_eq_true] at n
    exact .cons (Rep.noDrop e h n.1) (Reps.noDrop e r n.2)
end
end
end Pl
namespace Pl
open PySem PySem.Spec PyProof.Rows L2
section
variable [TJ] {X : Cx} {W : WX} {body : List Stmt} {f₀ : Stmt} {fs : List Stmt} {rp pos : Pos} {tf tfs : TS} {Ub : TXs} {Tf : TSp} {e : Expr} {Xe : TXe}
def xFin (Tf : TSp) (xx : XP) : XP := fun x ρ => Tf { nx := fun ρ2 => xx x ρ2, rt := fun _ _ => False } ρ
theorem XRel.fin {G F : Hp} {K : PySem.W.Frag} {xx : XP} (hx : XRel K W G F xx) (hs : SndS K tfs Tf) : XRel K (wFin tfs W) G F (xFin Tf xx) := fun F' H' σ' ρ' cls d x u S' xr q =>
  hs G F' H' σ' ρ' _ _ S' q ⟨fun F2 H2 σ2 ρ2 u2 S2 q2 => hx F2 H2 σ2 ρ2 cls d x (u.trans u2) S2 (xr.mono u2.ex) q2, fun _ _ _ _ _ _ _ _ q => q.elim, fun _ _ _ _ _ _ q => q.elim, fun _ _ _ _ _ _ q => q.elim⟩
def liftXE (K : PySem.W.Frag) (W : WX) (T : TXe) : TE := fun σ H R => ∃ (G F : Hp) (ρ : Ro) (xx : XP), Sim K G F H σ ρ ∧ T ρ xx ∧ XRel K W G F xx
theorem PXE.lift {t : TE} (h : PXE X W e t Xe) : PXE X W e (liftXE X.K W Xe) Xe :=
  ⟨⟨fun pins s σ H Q I ⟨G, F, ρ, xx, S, hT, hx⟩ => h.pe.run pins s σ H Q I (h.snd G F H σ ρ xx Q S hT hx)⟩, fun G F H σ ρ xx R S hT hx => ⟨G, F, ρ, xx, S, hT, hx⟩⟩
end
end Pl
namespace Pl
open PySem PySem.Spec PyProof.Rows L2
def noLF : List (Str × Fd) → Bool
  | [] => true
  | (_, .val d) :: fs => noL d && noLF fs
  | (_, .own _ xs) :: fs => noLs xs && noLF fs
def noLC : Cell → Bool
  | .val d => noL d
  | .own _ xs => noLs xs
  | .box (.ins _ _ _ fs) => noLF fs
  | .box (.gen g) => g.nl
  | .box _ => false
theorem FsR.noDrop {K : PySem.W.Frag} {F F' H : Hp} (e : ∀ b xs, F b = some (.tup xs) → F' b = some (.tup xs)) : ∀ {vs : List (Str × V)} {fs : List (Str × Fd)}, FsR K F H vs fs → noLF fs = true → FsR K F' H vs fs
  | [], [], _, _ => trivial
  | p :: ps, (x, .val d) :: fs, h, n => by
    rw [noLF, Bool.and_eq_true] at n
    exact ⟨h.1, Rep.noDrop e h.2.1 n.1, FsR.noDrop e h.2.2 n.2⟩
  | p :: ps, (x, .own b xs) :: fs, h, n => by
    rw [noLF, Bool.and_eq_true] at n
    obtain ⟨h1, ⟨h2, vs, h3, h4⟩, h5⟩ := h
    exact ⟨h1, ⟨h2, vs, h3, Reps.noDrop e h4 n.1⟩, FsR.noDrop e h5 n.2⟩
  | [], _ :: _, h, _ => h.elim
  | _ :: _, [], h, _ => h.elim
theorem Sh.At.noDrop {K : PySem.W.Frag} {F F' H : Hp} (e : ∀ b xs, F b = some (.tup xs) → F' b = some (.tup xs)) {s : Sh} (n : noLC (.box s) = true) (h : s.At K F H) : s.At K F' H := by
  cases s with
  | ins a C dx fs =>
    obtain ⟨nd, vs, h1, h2, h3⟩ := h
    exact ⟨nd, vs, h1, h2, FsR.noDrop e h3 n⟩
  | dic a ps => exact absurd n (by simp [noLC])
  | dicL a o kvs ps => exact absurd n (by simp [noLC])
  | gen g => exact g.drop n e h
end Pl
namespace Pl
open PySem PySem.Spec PyProof.Rows L2
variable [TJ]
def Cell.foot : Cell → List Addr
  | .val _ => []
  | .own p _ => [p]
  | .box s => s.foot
def CellB (K : PySem.W.Frag) (G F H : Hp) (ρ : Ro) (v : V) (c : Cell) : Prop := (match c with
  | .val d => Rep K F v d
  | .own p xs => v = .ref p ∧ ∃ us, H p = some (.lst us) ∧ Reps K F us xs
  | .box s => v = .ref s.root ∧ s.At K F H) ∧ ∀ p ∈ c.foot, F p = none ∧ G p = none ∧ NotOwn ρ p
def CellsB (K : PySem.W.Frag) (G F H : Hp) (ρ : Ro) : List V → List Cell → Prop
  | [], [] => True
  | v :: vs, c :: cs => CellB K G F H ρ v c ∧ CellsB K G F H ρ vs cs ∧ ∀ p ∈ c.foot, ∀ c' ∈ cs, p ∉ c'.foot
  | _, _ => False
section
variable {K : PySem.W.Frag} {G G' F F' H H' : Hp} {σ : L2.St} {ρ ρ' : Ro} {v : V} {c c' : Cell}
theorem CellB.live (h : CellB K G F H ρ v c) {p : Addr} (m : p ∈ c.foot) : ∃ o, H p = some o ∧ Mut o := by
  cases c with
  | val d => exact absurd m List.not_mem_nil
  | own q xs =>
    obtain ⟨⟨_, us, h1, _⟩, _⟩ := h
    rw [List.mem_singleton.mp m]
    exact ⟨_, h1, trivial⟩
  | box s => exact h.1.2.mut m
theorem CellB.to (h : CellB K G F H ρ v c) (hs : Same F F') (hp : ∀ p ∈ c.foot, F' p = none ∧ G' p = none ∧ NotOwn ρ' p ∧ H' p = H p) : CellB K G' F' H' ρ' v c := by
  refine ⟨?_, fun p m => ⟨(hp p m).1, (hp p m).2.1, (hp p m).2.2.1⟩⟩
  cases c with
  | val d => exact h.1.mono hs
  | own q xs =>
    obtain ⟨⟨h0, us, h1, h2⟩, _⟩ := h
    exact ⟨h0, us, by rw [(hp q (List.mem_singleton.mpr rfl)).2.2.2]; exact h1, h2.mono hs⟩
  | box s => exact ⟨h.1.1, h.1.2.mono hs fun p m => (hp p m).2.2.2⟩
theorem CellB.more {p : Addr} {o : HO} (h : CellB K G F H ρ v c) (hp : H p = none) : CellB K G F (upd H p o) ρ v c := h.to (.refl _) fun q m => by
  obtain ⟨x, hx, _⟩ := h.live m
  exact ⟨(h.2 q m).1, (h.2 q m).2.1, (h.2 q m).2.2, upd_ne (ne_of_none hx hp)⟩
theorem Sim.putB (S : Sim K G F H σ ρ) (i : Nat) (h : CellB K G F H ρ v c) : Sim K G F H (σ.set i (some v)) (ρ.set i (some c)) := by
  obtain ⟨h, hf⟩ := h
  cases c with
  | val d => exact S.setVal i h
  | own p xs =>
    obtain ⟨rfl, us, h5, h6⟩ := h
    obtain ⟨h2, h3, h4⟩ := hf p (List.mem_singleton.mpr rfl)
    exact S.setOwn i h5 h2 h3 h4 h6
  | box s =>
    obtain ⟨rfl, ha⟩ := h
    exact S.setBox i (fun p m => ⟨(hf p m).1, (hf p m).2.1⟩) ha fun p m => (hf p m).2.2
theorem NotOwn.putB {p : Addr} {i : Nat} (h : NotOwn ρ p) (n : p ∉ c.foot) : NotOwn (ρ.set i (some c)) p := by
  have far : ∀ {j : Nat} {x : Cell}, (ρ.set i (some c))[j]? = some (some x) → x = c ∨ ρ[j]? = some (some x) := fun {j x} e => by
    by_cases hj : i = j
    · subst hj
      by_cases hi : i < ρ.length
      · rw [List.getElem?_set_self hi] at e
        cases e; exact .inl rfl
      · rw [List.getElem?_eq_none (by simpa using hi)] at e; cases e
    · rw [List.getElem?_set_ne hj] at e; exact .inr e
  refine ⟨fun j ys e => ?_, fun ⟨j, s, e, m⟩ => ?_⟩
  · rcases far e with z | z
    · subst z; exact n (List.mem_singleton.mpr rfl)
    · exact h.1 j ys z
  · rcases far e with z | z
    · subst z; exact n m
    · exact h.2 ⟨j, s, z, m⟩
theorem CellB.put {i : Nat} (h : CellB K G F H ρ v c) (hd : ∀ p ∈ c.foot, p ∉ c'.foot) : CellB K G F H (ρ.set i (some c')) v c :=
  h.to (.refl _) fun p m => ⟨(h.2 p m).1, (h.2 p m).2.1, (h.2 p m).2.2.putB (hd p m), rfl⟩
theorem CellsB.len : ∀ {vs : List V} {cs : List Cell}, CellsB K G F H ρ vs cs → vs.length = cs.length
  | [], [], _ => rfl
  | _ :: _, _ :: _, h => congrArg (· + 1) (CellsB.len h.2.1)
  | [], _ :: _, h => h.elim
  | _ :: _, [], h => h.elim
theorem CellsB.less (e : Same G' G) : ∀ {vs : List V} {cs : List Cell}, CellsB K G F H ρ vs cs → CellsB K G' F H ρ vs cs
  | [], [], _ => trivial
  | _ :: _, _ :: _, h => ⟨h.1.to (.refl _) fun p m => ⟨(h.1.2 p m).1, e.free (h.1.2 p m).2.1, (h.1.2 p m).2.2, rfl⟩, CellsB.less e h.2.1, h.2.2⟩
  | [], _ :: _, h => h.elim
  | _ :: _, [], h => h.elim
theorem CellsB.foot : ∀ {vs : List V} {cs : List Cell}, CellsB K G F H ρ vs cs → ∀ c ∈ cs, ∀ p ∈ c.foot, G p = none
  | [], [], _, c, h => absurd h List.not_mem_nil
  | _ :: _, x :: _, h, c, m => by
    rcases List.mem_cons.mp m with rfl | m
    · exact fun p q => (h.1.2 p q).2.1
    · exact CellsB.foot h.2.1 c m
  | [], _ :: _, h, _, _ => h.elim
  | _ :: _, [], h, _, _ => h.elim
theorem Sim.lastB (S : Sim K G F H (σ ++ [some v]) (ρ ++ [some c])) : CellB K G F H ρ v c := by
  cases c with
  | val d => exact ⟨S.lastVal, fun p m => absurd m List.not_mem_nil⟩
  | own p xs =>
    obtain ⟨h1, h2, h3, h4, us, h5, h6⟩ := S.lastOwn
    exact ⟨⟨h1, us, h5, h6⟩, fun q m => by rw [List.mem_singleton.mp m]; exact ⟨h2, h3, h4⟩⟩
  | box s =>
    obtain ⟨h1, h2, h3, h4⟩ := S.lastBox
    exact ⟨⟨h1, h3⟩, fun q m => ⟨(h2 q m).1, (h2 q m).2, h4 q m⟩⟩
def guardF (G H : Hp) (as : List Addr) : Hp := fun b => if b ∈ as then H b else G b
theorem guardF_in {as : List Addr} {b : Addr} (h : b ∈ as) : guardF G H as b = H b := by unfold guardF; rw [if_pos h]
theorem guardF_out {as : List Addr} {b : Addr} (h : b ∉ as) : guardF G H as b = G b := by unfold guardF; rw [if_neg h]
theorem CellB.same (h : CellB K G F H ρ v c) : Same G (guardF G H c.foot) := fun b o e => by
  by_cases m : b ∈ c.foot
  · rw [(h.2 b m).2.1] at e; cases e
  · rw [guardF_out m]; exact e
theorem Sim.guardB (S : Sim K G F H σ ρ) (h : CellB K G F H ρ v c) : Sim K (guardF G H c.foot) F H σ ρ := by
  refine ⟨S.hF, ⟨fun b o e => ?_, TJ.frame S.hG.tj fun b o e => ?_⟩, S.len, S.val, fun i b ys q => ?_, S.ne, S.bx.heap (.refl _) fun p m => ⟨(S.bx.free m).1, ?_, rfl⟩⟩
  · by_cases m : b ∈ c.foot
    · rw [guardF_in m] at e; exact e
    · rw [guardF_out m] at e; exact S.hG b o e
  · by_cases m : b ∈ c.foot
    · exact .inr (h.live m)
    · rw [guardF_out m] at e; exact .inl e
  · obtain ⟨g1, g2, g3, g4⟩ := S.own i b ys q
    exact ⟨g1, g2, by rw [guardF_out fun m => (h.2 b m).2.2.1 i ys q]; exact g3, g4⟩
  · rw [guardF_out fun z => (h.2 p z).2.2.2 m]; exact (S.bx.free m).2.1
theorem Sim.unguardB (S : Sim K G' F H σ ρ) (e : Same G G') : Sim K G F H σ ρ :=
  ⟨S.hF, S.hG.less e, S.len, S.val, fun i b ys q => by
    obtain ⟨g1, g2, g3, g4⟩ := S.own i b ys q
    exact ⟨g1, g2, e.free g3, g4⟩, S.ne, S.bx.unguard e⟩
theorem CellB.kept {F2 H2 : Hp} {σ2 : L2.St} {ρ2 : Ro} (h : CellB K G F H ρ v c) (u : Up (guardF G H c.foot) F F2) (S2 : Sim K (guardF G H c.foot) F2 H2 σ2 ρ2) : CellB K G F2 H2 ρ2 v c := h.to u.ex fun p m => by
  obtain ⟨o, ho, _⟩ := h.live m
  have hg : guardF G H c.foot p = some o := by rw [guardF_in m]; exact ho
  refine ⟨u.isNone (h.2 p m).1 hg, (h.2 p m).2.1, ⟨fun i ys q => ?_, S2.bx.notG hg⟩, by rw [ho]; exact S2.hG p o hg⟩
  have := (S2.own i p ys q).2.2.1
  rw [hg] at this; cases this
end
def SndBs (K : PySem.W.Frag) (t : TA) (T : TCs) : Prop := ∀ (G F H : Hp) (σ : L2.St) (ρ : Ro) (Q : List Cell → Ro → Prop) (R : List V → Hp → Prop), Sim K G F H σ ρ → T ρ Q →
  (∀ vs cs F' H' ρ', Up G F F' → Sim K G F' H' σ ρ' → CellsB K G F' H' ρ' vs cs → Q cs ρ' → R vs H') → t σ H R
structure PPBs (X : Cx) (es : List Expr) (t : TA) (T : TCs) : Prop where
  pa : PA X es t
  snd : SndBs X.K t T
section
variable {X : Cx} {e : Expr} {es : List Expr} {te : TE} {t : TA} {T : TCs} {Tc : TCp} {pos : Pos}
def pConsB (Tc : TCp) (T : TCs) : TCs := fun ρ Q => Tc ρ fun c ρ1 => T ρ1 fun cs ρ2 => Q (c :: cs) ρ2
theorem ppbs_nil : PPBs X [] tNil pNilC := ⟨pa_nil, fun G F H σ ρ Q R S hT k => k [] [] F H ρ (.refl _ _) S trivial hT⟩
theorem ppbs_cons (h1 : PPC X e te Tc) (h2 : PPBs X es t T) (hs : starEach (e :: es) X.env = (false, eval e X.env) :: starEach es X.env := by rfl) : PPBs X (e :: es) (tCons te t) (pConsB Tc T) := ⟨pa_cons h1.pe h2.pa hs, fun G F H σ ρ Q R S hT k =>
  h1.snd G F H σ ρ _ _ S hT fun v c F1 H1 ρ1 u1 S1 q1 => by
    have hc := S1.lastB
    refine h2.snd _ F1 H1 σ ρ1 _ _ (S1.drop.guardB hc) q1 fun vs cs F2 H2 ρ2 u2 S2 o2 q2 => ?_
    have hc2 := hc.kept u2 S2
    refine k (v :: vs) (c :: cs) F2 H2 ρ2 (u1.trans (u2.less hc.same)) (S2.unguardB hc.same) ⟨hc2, o2.less hc.same, fun p m c' m' z => ?_⟩ q2
    have h0 := o2.foot c' m' p z
    rw [guardF_in m] at h0
    obtain ⟨o, ho, _⟩ := hc.live m
    rw [h0] at ho; cases ho⟩
theorem pps_parB {i j : Nat} {x y : Str} {a b : Expr} {ta : TA} {px py pt : Pos} {kt k2 pt2} (hc : X.calm = true) (hN : X.N.Nodup) (ha : PPBs X [a, b] ta T) (hi : X.N[i]? = some x := by rfl) (hj : X.N[j]? = some y := by rfl) (hij : i ≠ j := by decide)
    (hx : X.env.scope.names.lookup x = some .local := by rfl) (hy : X.env.scope.names.lookup y = some .local := by rfl)
    (hw : swappedStores [.Tuple [.Name x px, .Name y py] kt pt] (.Tuple [a, b] k2 pt2) X.env = pure (some [x, y]) := by rfl)
    (hs : swapsWithSole [.Tuple [.Name x px, .Name y py] kt pt] (.Tuple [a, b] k2 pt2) pos.line X.env = pure false := by rfl) :
    PPS X (.Assign [.Tuple [.Name x px, .Name y py] kt pt] (.Tuple [a, b] k2 pt2) pos) (tPar i j ta) (pParC i j T) := ⟨ps_par hc hN hi hj hij hx hy ha.pa hw hs, fun G F H σ ρ P D S hT r =>
  ha.snd G F H σ ρ _ _ S hT fun vs cs F' H' ρ' u S' o q => by
    have l2 := two_cells q
    obtain ⟨c1, c2, rfl⟩ := len_two l2
    obtain ⟨v1, v2, rfl⟩ := len_two (o.len.trans l2)
    exact ⟨v1, v2, rfl, r.nx F' H' _ _ u ((S'.putB i o.1).putB j (o.2.1.1.put fun p m z => o.2.2 p z c2 (by simp) m)) q⟩⟩
end
end Pl
namespace Pl
open PySem PySem.Spec PyProof.Rows L2
def Cell.root : Cell → Addr
  | .val _ => 0
  | .own p _ => p
  | .box s => s.root
def CellF (K : PySem.W.Frag) (G F H : Hp) (v : V) (c : Cell) : Prop := (match c with
  | .val d => Rep K F v d
  | .own p xs => v = .ref p ∧ ∃ us, H p = some (.lst us) ∧ Reps K F us xs
  | .box s => v = .ref s.root ∧ s.At K F H) ∧ ∀ p ∈ c.foot, F p = none ∧ G p = none
section
variable {K : PySem.W.Frag} {G G' F F' H H' : Hp} {σ σ' : L2.St} {ρ ρ' : Ro} {v : V} {c c' : Cell} {i j : Nat}
theorem CellF.live (h : CellF K G F H v c) {p : Addr} (m : p ∈ c.foot) : ∃ o, H p = some o ∧ Mut o := by
  cases c with
  | val d => exact absurd m List.not_mem_nil
  | own q xs =>
    obtain ⟨⟨_, us, h1, _⟩, _⟩ := h
    rw [List.mem_singleton.mp m]
    exact ⟨_, h1, trivial⟩
  | box s => exact h.1.2.mut m
theorem CellF.to (h : CellF K G F H v c) (hs : Same F F') (hp : ∀ p ∈ c.foot, F' p = none ∧ G' p = none ∧ H' p = H p) : CellF K G' F' H' v c := by
  refine ⟨?_, fun p m => ⟨(hp p m).1, (hp p m).2.1⟩⟩
  cases c with
  | val d => exact h.1.mono hs
  | own q xs =>
    obtain ⟨⟨h0, us, h1, h2⟩, _⟩ := h
    exact ⟨h0, us, by rw [(hp q (List.mem_singleton.mpr rfl)).2.2]; exact h1, h2.mono hs⟩
  | box s => exact ⟨h.1.1, h.1.2.mono hs fun p m => (hp p m).2.2⟩
end
section
variable [TJ] {K : PySem.W.Frag} {G G' F F' H H' : Hp} {σ σ' : L2.St} {ρ ρ' : Ro} {v : V} {c c' : Cell} {i j : Nat}
theorem Sim.cell (S : Sim K G F H σ ρ) (e : ρ[i]? = some (some c)) : ∃ v, σ[i]? = some (some v) ∧ CellF K G F H v c := by
  cases c with
  | val d =>
    obtain ⟨v, h1, h2⟩ := S.val i d e
    exact ⟨v, h1, h2, fun p m => absurd m List.not_mem_nil⟩
  | own p xs =>
    obtain ⟨h1, h2, h3, us, h4, h5⟩ := S.own i p xs e
    exact ⟨_, h1, ⟨rfl, us, h4, h5⟩, fun q m => by rw [List.mem_singleton.mp m]; exact ⟨h2, h3⟩⟩
  | box s =>
    obtain ⟨h1, h2, h3⟩ := S.bx.box i s e
    exact ⟨_, h1, ⟨rfl, h3⟩, h2⟩
theorem Sim.apart (S : Sim K G F H σ ρ) (e1 : ρ[i]? = some (some c)) (e2 : ρ[j]? = some (some c')) {p : Addr} (m1 : p ∈ c.foot) (m2 : p ∈ c'.foot) : i = j := by
  cases c with
  | val d => exact absurd m1 List.not_mem_nil
  | own q xs =>
    cases List.mem_singleton.mp m1
    cases c' with
    | val d => exact absurd m2 List.not_mem_nil
    | own q' ys =>
      cases List.mem_singleton.mp m2
      exact S.ne _ _ _ _ _ e1 e2
    | box s => exact absurd ⟨j, s, e2, m2⟩ (S.bx.bo i _ xs e1)
  | box s =>
    cases c' with
    | val d => exact absurd m2 List.not_mem_nil
    | own q' ys =>
      cases List.mem_singleton.mp m2
      exact absurd ⟨i, s, e1, m1⟩ (S.bx.bo j _ ys e2)
    | box t => exact S.bx.bb i j s t p e1 e2 m1 m2
theorem Sim.of (hF : Same F H) (hG : SameJ G F H) (len : σ.length = ρ.length) (cell : ∀ (i : Nat) (c : Cell), ρ[i]? = some (some c) → ∃ v, σ[i]? = some (some v) ∧ CellF K G F H v c)
    (ap : ∀ (i j : Nat) (c c' : Cell) (p : Addr), ρ[i]? = some (some c) → ρ[j]? = some (some c') → p ∈ c.foot → p ∈ c'.foot → i = j) : Sim K G F H σ ρ := by
  refine ⟨hF, hG, len, fun i d e => ?_, fun i a xs e => ?_, fun i j a xs ys e1 e2 => ap i j _ _ a e1 e2 (List.mem_singleton.mpr rfl) (List.mem_singleton.mpr rfl), fun i s e => ?_, fun i j s t p e1 e2 m1 m2 => ap i j _ _ p e1 e2 m1 m2, fun j a xs e ⟨i, s, e2, m⟩ => ?_⟩
  · obtain ⟨v, h1, h2, _⟩ := cell i _ e
    exact ⟨v, h1, h2⟩
  · obtain ⟨v, h1, ⟨h2, us, h3, h4⟩, h5⟩ := cell i _ e
    subst h2
    exact ⟨h1, (h5 a (List.mem_singleton.mpr rfl)).1, (h5 a (List.mem_singleton.mpr rfl)).2, us, h3, h4⟩
  · obtain ⟨v, h1, ⟨h2, h3⟩, h5⟩ := cell i _ e
    subst h2
    exact ⟨h1, h5, h3⟩
  · have := ap i j _ _ a e2 e m (List.mem_singleton.mpr rfl)
    subst this
    rw [e] at e2; cases e2
end
section
variable {K : PySem.W.Frag} {G F H : Hp} {σ : L2.St} {ρ : Ro} {c c' : Cell} {i j : Nat}
theorem SimR.cell (S : SimR K G F H σ ρ) (e : ρ[i]? = some (some c)) : ∃ v, σ[i]? = some (some v) ∧ CellF K G F H v c := @Sim.cell tj0 _ _ _ _ _ _ _ _ (@SimR.sim _ _ _ _ _ _ S) e
theorem SimR.apart (S : SimR K G F H σ ρ) (e1 : ρ[i]? = some (some c)) (e2 : ρ[j]? = some (some c')) {p : Addr} (m1 : p ∈ c.foot) (m2 : p ∈ c'.foot) : i = j := @Sim.apart tj0 _ _ _ _ _ _ _ _ _ _ (@SimR.sim _ _ _ _ _ _ S) e1 e2 _ m1 m2
theorem SimR.of (hF : Same F H) (hG : Same G H) (len : σ.length = ρ.length) (cell : ∀ (i : Nat) (c : Cell), ρ[i]? = some (some c) → ∃ v, σ[i]? = some (some v) ∧ CellF K G F H v c)
    (ap : ∀ (i j : Nat) (c c' : Cell) (p : Addr), ρ[i]? = some (some c) → ρ[j]? = some (some c') → p ∈ c.foot → p ∈ c'.foot → i = j) : SimR K G F H σ ρ :=
  @Sim.raw tj0 _ _ _ _ _ _ (@Sim.of tj0 _ _ _ _ _ _ hF (SameJ.of hG) len cell ap)
end
inductive NamesAt (X : Cx) : List Nat → List Expr → Prop where
  | nil : NamesAt X [] []
  | cons {i : Nat} {y : Str} {py : Pos} {is : List Nat} {es : List Expr} (hN : X.N[i]? = some y) (hv : Vis X.env.scope y) (hd : (y == ("__debug__" : Str)) = false) (hcd : (y == ("__classdict__" : Str)) = false) (r : NamesAt X is es) : NamesAt X (i :: is) (.Name y py :: es)
def tVars : List Nat → TA → TA
  | [], t => t
  | i :: is, t => tCons (tVar i) (tVars is t)
section
variable [TJ] {X : Cx} {k : Nat} {f : Addr} {fd : FuncData} {ps : List Str} {x : Str} {p pos : Pos} {ns es : List Expr} {t : TA} {T : TAp} {n : Nat} {is : List Nat}
theorem NamesAt.pa (h : NamesAt X is ns) (ha : PA X es t) (he : ∀ (y : Str) (py : Pos) (l : List Expr), starEach (.Name y py :: l) X.env = (false, eval (.Name y py) X.env) :: starEach l X.env) : PA X (ns ++ es) (tVars is t) := by
  induction h with
  | nil => exact ha
  | cons hN hv hd hcd r ih => exact pa_cons (pe_var hN hv hd hcd) ih (he _ _ _)
end
end Pl
namespace Pl
open PySem PySem.Spec PyProof.Rows L2 LamX
abbrev NFn := NdefX.NF
end Pl
namespace L2
open PySem PySem.W PySem.Calls PyProof.Rows PySem.Spec
theorem ObjOk.obj {P : Program} {w : World} {H : Hp} {h : Heap} {a : Addr} {o : HO} (x : ObjOk P w H h a o) : ∃ u, h.get? a = some u := by
  cases o with
  | lst xs => obtain ⟨_, _, _, _, e⟩ := x; exact ⟨_, e⟩
  | tup xs => obtain ⟨_, _, _, p⟩ := x; obtain ⟨o, e, _⟩ := p; exact ⟨_, e⟩
  | dK kvs => obtain ⟨_, _, _, _, o, _, _, e, _⟩ := x; exact ⟨_, e⟩
  | dT kvs => obtain ⟨_, _, _, _, o, _, _, e, _⟩ := x; exact ⟨_, e⟩
  | set S n => obtain ⟨o, _, _, _, e, _⟩ := x; exact ⟨_, e⟩
  | ins C dx fs => obtain ⟨_, _, _, e, _⟩ := x; exact ⟨_, e⟩
  | own y => exact x
  | xd fs => obtain ⟨_, ⟨_, _, _, e, _⟩, _⟩ := x; exact ⟨_, e⟩
  | rng lo hi => obtain ⟨_, _, _, e⟩ := x; exact ⟨_, e⟩
  | frz ob u => obtain ⟨e, _⟩ := x; exact ⟨_, e⟩
  | tbl ps => exact ⟨_, show h.get? a = some _ from x⟩
  | met f y => exact ⟨_, show h.get? a = some _ from x⟩
  | ext φ => obtain ⟨_, ⟨_, e⟩, _⟩ := x; exact ⟨_, e⟩
end L2
namespace Pl
open PySem PySem.Spec PyProof.Rows L2
def dLe (a b : D) : Bool := PySem.W.dataLe false toPy a b
theorem Reps.zip {K : PySem.W.Frag} {F : Hp} : ∀ {vs : List V} {ds : List D}, Reps K F vs ds → (vs.zip ds).map Prod.fst = vs ∧ (vs.zip ds).map Prod.snd = ds ∧ ∀ p ∈ vs.zip ds, Rep K F p.1 p.2
  | _, _, .nil => ⟨rfl, rfl, fun p h => by cases h⟩
  | _, _, .cons h t => by
    obtain ⟨h1, h2, h3⟩ := Reps.zip t
    refine ⟨by rw [List.zip_cons_cons, List.map_cons, h1], by rw [List.zip_cons_cons, List.map_cons, h2], fun p hp => ?_⟩
    rw [List.zip_cons_cons] at hp
    rcases List.mem_cons.mp hp with rfl | hp
    · exact h
    · exact h3 p hp
end Pl
namespace Pl
open PySem PySem.Spec PyProof.Rows L2
section
variable [TJ]
structure Ns (K : PySem.W.Frag) (G F H : Hp) (ρ : Ro) (q : Addr) (es : List (Addr × List D)) : Prop where
  nf : F q = none
  ng : G q = none
  no : NotOwn ρ q
  hq : H q = some (.lst (es.map fun e => V.ref e.1))
  el : ∀ e ∈ es, NEl K G F H ρ e.1 e.2
  nd : (q :: es.map (·.1)).Nodup
abbrev TNp := Ro → (List (List D) → Ro → Prop) → Prop
section
variable {K : PySem.W.Frag} {G F H F1 H1 : Hp} {σ : L2.St} {ρ ρ1 : Ro} {i : Nat} {q : Addr} {es : List (Addr × List D)}
theorem Nst.ns (N : Nst K G F H σ ρ i q es) : Ns K G F H ρ q es := ⟨N.nf, N.ng, N.no, N.hq, N.el, N.nd⟩
theorem Ns.free (N : Ns K G F H ρ q es) {b : Addr} (h : b ∈ adrs q es) : F b = none ∧ G b = none ∧ NotOwn ρ b ∧ ∃ us, H b = some (.lst us) := by
  rcases List.mem_cons.mp h with e | h
  · subst e; exact ⟨N.nf, N.ng, N.no, _, N.hq⟩
  · obtain ⟨e, he, rfl⟩ := List.mem_map.mp h
    obtain ⟨h1, h2, h3, us, h4, _⟩ := N.el e he
    exact ⟨h1, h2, h3, us, h4⟩
theorem Ns.same {A : Hp} (N : Ns K G F H ρ q es) (h : ∀ b ∈ adrs q es, A b = none) : Same A (plusG A H (adrs q es)) := fun b o e => by
  rw [plus_out fun z => by rw [h b z] at e; cases e]; exact e
theorem Ns.guard (S : Sim K G F H σ ρ) (N : Ns K G F H ρ q es) : Sim K (plusG G H (adrs q es)) F H σ ρ :=
  ⟨S.hF, ⟨fun b o e => by
    by_cases h : b ∈ adrs q es
    · rw [plus_in h] at e; exact e
    · rw [plus_out h] at e; exact S.hG b o e, TJ.frame S.hG.tj fun b o e => by
    by_cases h : b ∈ adrs q es
    · obtain ⟨_, _, _, us, h4⟩ := N.free h
      exact .inr ⟨_, h4, trivial⟩
    · rw [plus_out h] at e; exact .inl e⟩, S.len, S.val, fun j a xs e => by
    obtain ⟨h1, h2, h3, h4⟩ := S.own j a xs e
    exact ⟨h1, h2, by rw [plus_out fun z => (N.free z).2.2.1.1 j xs e]; exact h3, h4⟩, S.ne, S.bx.heap (.refl _) fun p m => ⟨(S.bx.free m).1, by rw [plus_out fun z => (N.free z).2.2.1.2 m]; exact (S.bx.free m).2.1, rfl⟩⟩
theorem Ns.slots (N : Ns K G F H ρ q es) (h : ∀ b ∈ adrs q es, NotOwn ρ b → NotOwn ρ1 b) : Ns K G F H ρ1 q es :=
  ⟨N.nf, N.ng, h q (by simp) N.no, N.hq, fun e he => by
    obtain ⟨h1, h2, h3, h4⟩ := N.el e he
    exact ⟨h1, h2, h _ (List.mem_cons_of_mem _ (List.mem_map.mpr ⟨e, he, rfl⟩)) h3, h4⟩, N.nd⟩
theorem Ns.push (N : Ns K G F H ρ q es) {a : Addr} {xs : List D} (h : NEl K G F H ρ a xs) (hn : a ∉ adrs q es) : Ns K G F (upd H q (.lst ((es ++ [(a, xs)]).map fun e => V.ref e.1))) ρ q (es ++ [(a, xs)]) := by
  refine ⟨N.nf, N.ng, N.no, upd_same, fun e he => ?_, ?_⟩
  · have ne : e.1 ≠ q := fun z => by
      rcases List.mem_append.mp he with he | he
      · exact (List.nodup_cons.mp N.nd).1 (z ▸ List.mem_map.mpr ⟨e, he, rfl⟩)
      · rw [List.mem_singleton.mp he] at z; exact hn (z ▸ List.mem_cons_self)
    have hh : NEl K G F H ρ e.1 e.2 := by
      rcases List.mem_append.mp he with he | he
      · exact N.el e he
      · rw [List.mem_singleton.mp he]; exact h
    obtain ⟨h1, h2, h3, us, h4, h5⟩ := hh
    exact ⟨h1, h2, h3, us, by rw [upd_ne ne]; exact h4, h5⟩
  · rw [List.map_append]
    show (q :: (es.map (·.1) ++ [a])).Nodup
    have : (q :: (es.map (·.1) ++ [a])) = (q :: es.map (·.1)) ++ [a] := rfl
    rw [this]
    refine List.nodup_append.mpr ⟨N.nd, by simp, fun x hx y hy z => ?_⟩
    rw [List.mem_singleton.mp hy] at z
    exact hn (z ▸ hx)
theorem Ns.look (S : Sim K G F H σ ρ) (N : Ns K G F H ρ q es) : ∃ A : Hp, Same A H ∧ ∀ e ∈ es, Rep K A (.ref e.1) (.lst e.2) := by
  have sm : Same F (plusG F H (adrs q es)) := N.same fun b h => (N.free h).1
  refine ⟨plusG F H (adrs q es), fun b o e => ?_, fun e he => ?_⟩
  · by_cases h : b ∈ adrs q es
    · rw [plus_in h] at e; exact e
    · rw [plus_out h] at e; exact S.hF b o e
  · obtain ⟨h1, h2, h3, us, h4, h5⟩ := N.el e he
    exact .lst (by rw [plus_in (List.mem_cons_of_mem _ (List.mem_map.mpr ⟨e, he, rfl⟩))]; exact h4) (h5.mono sm)
end
end
end Pl
namespace Pl
open PySem PySem.Spec PyProof.Rows L2
abbrev NE := NestedKey × Addr × V
abbrev NT : List NE → List (NestedKey × Addr × Value) → Prop := Paired fun p q => p.1 = q.1 ∧ p.2.1 = q.2.1 ∧ RelV p.2.2 q.2.2
def dnφ (P : Program) (w : World) (a : Addr) (L : List NE) : Heap → Prop := fun h => L.length ≤ sizeLine ∧ (a == sysModules) = false ∧ ∃ xs, NT L xs ∧
  ∃ o es ep, h.get? a = some o ∧ o.ExactDict ∧ o.data = .dict es ep ∧ es.toList = xs.map (entryOfKey (nestedKind P w)) ∧ (xs.map (·.1)).Nodup
def DicNO (P : Program) (w : World) (a : Addr) (L : List NE) : HO := .ext (dnφ P w a L)
theorem dn_mut {P : Program} {w : World} {a : Addr} {L : List NE} : Mut (DicNO P w a L) := ⟨a, fun h ⟨_, _, xs, _, o, es, ep, e, _, d, _⟩ => ⟨o, es, ep, e, d⟩⟩
theorem dn_ok {P : Program} {w : World} {H : Hp} {h : Heap} {a : Addr} {L : List NE} (x : dnφ P w a L h) : ObjOk P w H h a (DicNO P w a L) :=
  ⟨x, (by obtain ⟨_, _, xs, _, o, es, ep, e, _⟩ := x; exact ⟨o, e⟩), fun h1 h2 ⟨z, y, xs, r, o, es, ep, e, c⟩ k => ⟨z, y, xs, r, o, es, ep, k o e, c⟩⟩
theorem dn_of {P : Program} {w : World} {H : Hp} {h : Heap} {a : Addr} {L : List NE} (ok : HOk P w H h) (e : H a = some (DicNO P w a L)) : dnφ P w a L h := (show ObjOk P w H h a (DicNO P w a L) from ok a _ e).1
mutual
inductive NKv (H : Hp) : V → NestedKey → Prop
  | non : NKv H .non .none
  | bl (b : Bool) : NKv H (.bl b) (.num (if b = true then 1 else 0))
  | int (i : Int) : NKv H (.int i) (.num i)
  | str (x : Str) : NKv H (.str x) (.text x)
  | tup {a : Addr} {vs : List V} {ks : List NestedKey} : H a = some (.tup vs) → NKvs H vs ks → NKv H (.ref a) (.tup ks)
inductive NKvs (H : Hp) : List V → List NestedKey → Prop
  | nil : NKvs H [] []
  | cons {v : V} {vs : List V} {k : NestedKey} {ks : List NestedKey} : NKv H v k → NKvs H vs ks → NKvs H (v :: vs) (k :: ks)
end
section
variable {P : Program} {w : World} {H : Hp} {h : Heap}
mutual
theorem NKv.is (ok : HOk P w H h) : ∀ {v : V} {k : NestedKey} {u : Value}, NKv H v k → RelV v u → NestedIs h k u
  | _, _, u, .non, r => by
    have r : u = .none := r
    subst r; exact .none
  | _, _, u, .bl b, r => by
    have r : u = .bool b := r
    subst r; exact .bool rfl
  | _, _, u, .int i, r => by
    obtain ⟨t, r⟩ := (show ∃ t, u = Value.int i t from r)
    subst r; exact .int i t
  | _, _, u, .str x, r => by
    obtain ⟨t, r⟩ := (show ∃ t, u = Value.str x t from r)
    subst r; exact .text x t
  | _, _, u, .tup (a := a) (vs := vs) e q, r => by
    have r : u = .ref a := r
    subst r
    obtain ⟨_, its, rv, o, h1, h2, n, h3⟩ := (show ObjOk P w H h a (.tup vs) from ok a _ e)
    exact .tup h1 h2 h3 (by simpa using NKvs.is ok q rv)
theorem NKvs.is (ok : HOk P w H h) : ∀ {vs : List V} {ks : List NestedKey} {us : List Value}, NKvs H vs ks → Vals vs us → NestedAll h ks us
  | _, _, _, .nil, r => by cases r; exact .nil
  | _, _, _, .cons q t, r => by
    cases r with
    | cons r1 r2 => exact .cons (q.is ok r1) (NKvs.is ok t r2)
end
end
def NKey (H : Hp) (b : Addr) (k : NestedKey) : Prop := NKv H (.ref b) k ∧ k.depth ≤ 8
theorem NKey.is {P : Program} {w : World} {H : Hp} {h : Heap} {b : Addr} {k : NestedKey} (ok : HOk P w H h) (x : NKey H b k) : (nestedKind P w).is h k b := ⟨x.1.is ok rfl, x.2⟩
def KeysOk (H : Hp) (L : List NE) : Prop := ∀ p ∈ L, NKey H p.2.1 p.1
def lookN (L : List NE) (k : NestedKey) : Option V := (L.find? fun p => decide (p.1 = k)).map (·.2.2)
def putN (L : List NE) (k : NestedKey) (b : Addr) (v : V) : List NE := if (lookN L k).isSome = true then L.map (fun p => if p.1 = k then (p.1, p.2.1, v) else p) else L ++ [(k, b, v)]
theorem NT.val {L : List NE} {xs : List (NestedKey × Addr × Value)} (r : NT L xs) (k : NestedKey) : RelO (lookN L k) ((atKey xs k).map (·.2)) := by
  induction r with
  | nil => exact True.intro
  | @cons p q ps qs h t ih =>
    obtain ⟨h1, _, h2⟩ := h
    by_cases e : p.1 = k
    · have e' : q.1 = k := h1.symm.trans e
      have b : atKey (q :: qs) k = some q.2 := by simp [atKey, List.find?_cons, e']
      have a : lookN (p :: ps) k = some p.2.2 := by simp [lookN, List.find?_cons, e]
      rw [a, b]; exact h2
    · have e' : ¬ q.1 = k := fun z => e (h1.trans z)
      have b : atKey (q :: qs) k = atKey qs k := by simp [atKey, List.find?_cons, e']
      have a : lookN (p :: ps) k = lookN ps k := by simp [lookN, List.find?_cons, e]
      rw [a, b]; exact ih
theorem NT.repl {L : List NE} {xs : List (NestedKey × Addr × Value)} (r : NT L xs) (k : NestedKey) {y : V} {u : Value} (ry : RelV y u) : NT (L.map fun p => if p.1 = k then (p.1, p.2.1, y) else p) (xs.map (putAt k u)) := by
  induction r with
  | nil => exact .nil
  | @cons p q ps qs h t ih =>
    rw [List.map_cons, List.map_cons]
    refine .cons ?_ ih
    obtain ⟨h1, h2, h3⟩ := h
    unfold putAt
    by_cases e : p.1 = k
    · rw [if_pos e, if_pos (h1.symm.trans e)]; exact ⟨h1, h2, ry⟩
    · rw [if_neg e, if_neg (fun z => e (h1.trans z))]; exact ⟨h1, h2, h3⟩
theorem NT.put {L : List NE} {xs : List (NestedKey × Addr × Value)} (r : NT L xs) (k : NestedKey) {b : Addr} {y : V} {u : Value} (ry : RelV y u) : NT (putN L k b y) (storedH xs k b u) := by
  have e : (lookN L k).isSome = (atKey xs k).isSome := by rw [(r.val k).isSome_eq, Option.isSome_map]
  unfold putN storedH
  rw [e]
  by_cases q : (atKey xs k).isSome = true
  · rw [if_pos q, if_pos q]; exact r.repl k ry
  · rw [if_neg q, if_neg q]; exact Paired.snoc r ⟨rfl, rfl, ry⟩
theorem putN_len (L : List NE) (k : NestedKey) (b : Addr) (v : V) : (putN L k b v).length ≤ L.length + 1 := by
  unfold putN
  split
  · rw [List.length_map]; omega
  · rw [List.length_append]; exact Nat.le_refl _
theorem NT.len {L : List NE} {xs : List (NestedKey × Addr × Value)} (r : NT L xs) : L.length = xs.length := Paired.length r
section
variable {P : Program} {w : World} {H : Hp} {h : Heap} {a : Addr} {L : List NE}
theorem dn_full (ok : HOk P w H h) (e : H a = some (DicNO P w a L)) (kk : KeysOk H L) : L.length ≤ sizeLine ∧ (a == sysModules) = false ∧ ∃ xs, NT L xs ∧ h.DictOfH (nestedKind P w) a xs := by
  obtain ⟨z, y, xs, r, o, es, ep, h1, h2, h3, h4, h5⟩ := dn_of ok e
  refine ⟨z, y, xs, r, o, es, ep, h1, h2, h3, h4, fun x hx => ?_, h5⟩
  have all : ∀ {l : List NE} {m : List (NestedKey × Addr × Value)}, NT l m → KeysOk H l → ∀ x ∈ m, (nestedKind P w).is h x.1 x.2.1 := by
    intro l m q
    induction q with
    | nil => intro _ x hx; exact nomatch hx
    | @cons p q ps qs hq t ih =>
      intro kk x hx
      rcases List.mem_cons.mp hx with e | hx
      · subst e
        have := kk p List.mem_cons_self
        rw [← hq.1, ← hq.2.1]
        exact this.is ok
      · exact ih (fun p hp => kk p (List.mem_cons_of_mem _ hp)) x hx
  exact all r kk x hx
end
section
variable {X : Cx} {pins : List (Addr × Obj)} {σ : L2.St} {H : Hp} {s : Shared} {a b : Addr} {k : NestedKey} {v : V} {r : Value} {L : List NE} {A : Around} {E : Value → Shared → Prop}
theorem dn_getItem {Q : Value → Shared → Prop} (hu : A.in1.units + 8 < cLine) (I : Inv X pins σ H s) (e : H a = some (DicNO X.prog X.w a L)) (kk : KeysOk H L) (kb : NKey H b k) (l : lookN L k = some v) (h : ∀ w' s', Inv X pins σ H s' → RelV v w' → Q w' s') :
    wpAny (model X.prog X.w) A (getItem (.ref a) (.ref b)) Q E s := by
  obtain ⟨z, hd, xs, rel, dd⟩ := dn_full I.hok e kk
  obtain ⟨w', hw, rw'⟩ := RelO.some_of (v := v) (o := (atKey xs k).map (·.2)) (by rw [← l]; exact rel.val k)
  obtain ⟨p, hp, hp2⟩ := Option.map_eq_some_iff.mp hw
  refine wpAny_getItem_heap (knd := nestedKind X.prog X.w) hu (kb.is I.hok) dd hp ?_
  rw [hp2]
  exact h w' _ (I.tok _) rw'
theorem dn_in {Q : Value → Shared → Prop} (hu : A.in1.units + 8 < cLine) (I : Inv X pins σ H s) (e : H a = some (DicNO X.prog X.w a L)) (kk : KeysOk H L) (kb : NKey H b k) (h : ∀ s', Inv X pins σ H s' → Q (.bool (lookN L k).isSome) s') :
    wpAny (model X.prog X.w) A (compareOp .In (.ref b) (.ref a)) Q E s := by
  obtain ⟨z, hd, xs, rel, dd⟩ := dn_full I.hok e kk
  refine wpAny_in_heap (knd := nestedKind X.prog X.w) hu (kb.is I.hok) hd dd ?_
  have q := (rel.val k).isSome_eq
  rw [Option.isSome_map] at q
  rw [← q]
  exact h _ (I.tok _)
theorem dn_setItem {Q : Unit → Shared → Prop} (hu : A.in1.units + 8 < cLine) (I : Inv X pins σ H s) (e : H a = some (DicNO X.prog X.w a L)) (kk : KeysOk H L) (kb : NKey H b k) (hl : L.length < sizeLine) (rv : RelV v r) (h : ∀ s', Inv X pins σ (upd H a (DicNO X.prog X.w a (putN L k b v))) s' → Q () s') :
    wpAny (model X.prog X.w) A (setItem (.ref a) (.ref b) r) Q E s := by
  obtain ⟨z, hd, xs, rel, dd⟩ := dn_full I.hok e kk
  have hz : xs.length ≤ sizeLine := by rw [← rel.len]; exact z
  refine wpAny_setItem_heap (knd := nestedKind X.prog X.w) (hsz := hz) hu (kb.is I.hok) dd fun h' dd' hs => h _ ?_
  obtain ⟨q, es, ep, hq, h2, h3, h4, _, h5⟩ := dd'
  refine d_write I (by rw [e]; exact True.intro) hs ⟨q, hq⟩ (dn_ok ⟨?_, hd, _, rel.put k rv, q, es, ep, hq, h2, h3, h4, h5⟩)
  have := putN_len L k b v
  omega
end
def tDNew (P : Program) (w : World) : TE := fun _ H Q => ∀ p, H p = none → Q (.ref p) (upd H p (DicNO P w p []))
def NAt (P : Program) (w : World) (H : Hp) (x y : V) (a b : Addr) (L : List NE) (k : NestedKey) : Prop := x = .ref a ∧ y = .ref b ∧ H a = some (DicNO P w a L) ∧ KeysOk H L ∧ NKey H b k
def tNGet (P : Program) (w : World) (td ty : TE) : TE := fun σ H Q => td σ H fun x H1 => ty σ H1 fun y H2 => ∃ a b L k v, NAt P w H2 x y a b L k ∧ lookN L k = some v ∧ Q v H2
def tNIn (P : Program) (w : World) (ty td : TE) : TE := fun σ H Q => ty σ H fun y H1 => td σ H1 fun x H2 => ∃ a b L k, NAt P w H2 x y a b L k ∧ Q (.bl (lookN L k).isSome) H2
def sNPut (P : Program) (w : World) (td ty tv : TE) : TS := fun D σ H => tv σ H fun v H1 => td σ H1 fun x H2 => ty σ H2 fun y H3 => ∃ a b L k, NAt P w H3 x y a b L k ∧ L.length < sizeLine ∧ D.nx σ (upd H3 a (DicNO P w a (putN L k b v)))
theorem dn_empty {P : Program} {w : World} {H : Hp} (h : Heap) (hb : sysModules < h.objs.size) : ObjOk P w H (h.push { cls := .type "dict", data := .dict #[] }) h.objs.size (DicNO P w h.objs.size []) :=
  dn_ok ⟨Nat.zero_le _, beq_eq_false_iff_ne.mpr (Ne.symm (Nat.ne_of_lt hb)), [], .nil, _, #[], 0, Heap.get?_push_size _ rfl, ⟨rfl, rfl, rfl⟩, rfl, rfl, List.nodup_nil⟩
section
variable {X : Cx} {o i e value : Expr} {pos pos' tpos : Pos} {td ty tv : TE}
theorem pe_dnew : PE X (.Dict [] [] pos) (tDNew X.prog X.w) := ⟨fun pins s σ H Q I h =>
  wpAny_Dict_empty ⟨.ref s.heap.objs.size, _, I.laid (a := s.heap.objs.size) (o := DicNO X.prog X.w s.heap.objs.size []) (t' := s.toks) (fun _ _ q => Heap.get?_push_of_some _ q) (Nat.le_refl _) (dn_empty s.heap I.big), rfl, h _ (I.hok.fresh (Nat.le_refl _))⟩⟩
theorem dn_typeIs {pins : List (Addr × Obj)} {σ : L2.St} {H : Hp} {s : Shared} {a : Addr} {L : List NE} (I : Inv X pins σ H s) (e : H a = some (DicNO X.prog X.w a L)) : s.TypeIs (.ref a) "dict" := by
  obtain ⟨_, _, _, _, o, _, _, h1, h2, _⟩ := dn_of I.hok e
  exact ⟨o, h1, h2.1⟩
theorem pe_nget (hu : X.A.units + 64 < cLine) (ho : PE X o td) (hi : PE X i ty) (hs : NoSl i) : PE X (.Subscript o i pos) (tNGet X.prog X.w td ty) := by
  refine ⟨fun pins s σ H Q I h => ?_⟩
  refine subD_of PySem.F.slot_dict_getitem.lookup hs (thn (ho.run pins s σ H _ I h) fun u s1 ⟨x, H1, I1, rx, q1⟩ => thn (hi.run pins s1 σ H1 _ I1 q1) fun iv s2 ⟨y, H2, I2, ry, a, b, L, k, v, ⟨ex, ey, g, kk, kb⟩, l, q2⟩ => ?_)
  subst ex ey
  obtain rfl : u = Value.ref a := rx
  obtain rfl : iv = Value.ref b := ry
  exact ⟨dn_typeIs I2 g, dn_getItem (by show X.A.units + 1 + 8 < cLine; omega) I2 g kk kb l fun w' s3 I3 rw' => ⟨v, H2, I3, rw', q2⟩⟩
theorem pc_nin (hu : X.A.units + 64 < cLine) (hi : PE X i ty) (ho : PE X o td) : PC X .In i o (tNIn X.prog X.w ty td) := by
  refine ⟨fun pins s σ H Q I h => ?_⟩
  refine thn (hi.run pins s σ H _ I h) fun iv s1 ⟨y, H1, I1, ry, q1⟩ => thn (ho.run pins s1 σ H1 _ I1 q1) fun u s2 ⟨x, H2, I2, rx, a, b, L, k, ⟨ex, ey, g, kk, kb⟩, q2⟩ => ?_
  subst ex ey
  obtain rfl : u = Value.ref a := rx
  obtain rfl : iv = Value.ref b := ry
  exact dn_in (by show X.A.units + 1 + 8 < cLine; omega) I2 g kk kb fun s3 I3 => ⟨.bl (lookN L k).isSome, H2, I3, rfl, q2⟩
theorem ps_nput (hu : X.A.units + 64 < cLine) (ho : PE X o td) (hi : PE X i ty) (hv : PE X value tv) (hs : swapsWith value (some (.Subscript o i pos')) pos.line X.env = pure false) :
    PS X (.Assign [.Subscript o i pos'] value pos) (sNPut X.prog X.w td ty tv) := by
  refine ⟨fun pins s σ H D I h => ?_⟩
  refine wpAny_Assign_Subscript (thn (hv.run pins s σ H _ I h) fun r s1 ⟨v, H1, I1, rv, q1⟩ => thn (ho.run pins s1 σ H1 _ I1 q1) fun u s2 ⟨x, H2, I2, rx, q2⟩ => thn (hi.run pins s2 σ H2 _ I2 q2) fun iv s3 ⟨y, H3, I3, ry, a, b, L, k, ⟨ex, ey, g, kk, kb⟩, hl, q3⟩ => ?_) hs
  subst ex ey
  obtain rfl : u = Value.ref a := rx
  obtain rfl : iv = Value.ref b := ry
  exact dn_setItem (by show X.A.units + 1 + 8 < cLine; omega) I3 g kk kb hl rv fun s4 I4 => ⟨σ, _, I4, q3⟩
end
theorem NT.adrs {L : List NE} {xs : List (NestedKey × Addr × Value)} (r : NT L xs) : L.map (·.2.1) = xs.map (·.2.1) := by
  induction r with
  | nil => rfl
  | cons h t ih => rw [List.map_cons, List.map_cons, ih, h.2.1]
end Pl
namespace Pl
open PySem PySem.Spec PyProof.Rows L2
mutual
def keyN : D → Option NestedKey
  | .non => some .none
  | .bl b => some (.num (if b = true then 1 else 0))
  | .int i => some (.num i)
  | .str x => some (.text x)
  | .tup xs => (keyNs xs).map .tup
  | .lst _ => none
  | .scr _ => none
  | .adr _ => none
  | .exc _ _ => none
def keyNs : List D → Option (List NestedKey)
  | [] => some []
  | d :: ds => match keyN d, keyNs ds with
    | some k, some ks => some (k :: ks)
    | _, _ => none
end
section
variable {K : PySem.W.Frag} {F H : Hp}
mutual
theorem key_nk (e : Same F H) : ∀ {d : D} {v : V} {k : NestedKey}, Rep K F v d → keyN d = some k → NKv H v k
  | .non, _, _, r, h => by cases r; rw [keyN] at h; cases h; exact .non
  | .bl b, _, _, r, h => by cases r; rw [keyN] at h; cases h; exact .bl b
  | .int i, _, _, r, h => by cases r; rw [keyN] at h; cases h; exact .int i
  | .str x, _, _, r, h => by cases r; rw [keyN] at h; cases h; exact .str x
  | .tup xs, _, _, r, h => by
    cases r with
    | tup q t =>
      rw [keyN] at h
      obtain ⟨ks, h1, rfl⟩ := Option.map_eq_some_iff.mp h
      exact .tup (e _ _ q) (keys_nk e t h1)
  | .lst xs, _, _, _, h => by rw [keyN] at h; cases h
  | .scr ns, _, _, _, h => by rw [keyN] at h; cases h
  | .adr a, _, _, _, h => by rw [keyN] at h; cases h
  | .exc c y, _, _, _, h => by rw [keyN] at h; cases h
theorem keys_nk (e : Same F H) : ∀ {ds : List D} {vs : List V} {ks : List NestedKey}, Reps K F vs ds → keyNs ds = some ks → NKvs H vs ks
  | [], _, _, r, h => by cases r; rw [keyNs] at h; cases h; exact .nil
  | d :: ds, _, _, r, h => by
    cases r with
    | cons r1 r2 =>
      rw [keyNs] at h
      cases q1 : keyN d with
      | none => rw [q1] at h; cases h
      | some k =>
        cases q2 : keyNs ds with
        | none => rw [q1, q2] at h; cases h
        | some ks =>
          rw [q1, q2] at h
          cases h
          exact .cons (key_nk e r1 q1) (keys_nk e r2 q2)
end
end
def KeyD (d : D) (k : NestedKey) : Prop := (∃ xs, d = .tup xs) ∧ keyN d = some k ∧ k.depth ≤ 8
theorem KeyD.ref {K : PySem.W.Frag} {F : Hp} {v : V} {d : D} {k : NestedKey} (h : KeyD d k) (r : Rep K F v d) : ∃ b, v = .ref b := by
  obtain ⟨⟨xs, rfl⟩, _⟩ := h
  cases r with
  | tup q t => exact ⟨_, rfl⟩
theorem KeyD.key {K : PySem.W.Frag} {F H : Hp} {b : Addr} {d : D} {k : NestedKey} (h : KeyD d k) (e : Same F H) (r : Rep K F (.ref b) d) : NKey H b k := ⟨key_nk e r h.2.1, h.2.2⟩
abbrev Kps := List (NestedKey × D × D)
def DnR (K : PySem.W.Frag) (F : Hp) : List NE → Kps → Prop
  | [], [] => True
  | p :: ps, q :: qs => (p.1 = q.1 ∧ KeyD q.2.1 q.1 ∧ Rep K F (.ref p.2.1) q.2.1 ∧ Rep K F p.2.2 q.2.2) ∧ DnR K F ps qs
  | _, _ => False
theorem DnR.mono {K : PySem.W.Frag} {F F' : Hp} (sm : Same F F') : ∀ {L : List NE} {ps : Kps}, DnR K F L ps → DnR K F' L ps
  | [], [], _ => trivial
  | _ :: _, _ :: _, h => ⟨⟨h.1.1, h.1.2.1, h.1.2.2.1.mono sm, h.1.2.2.2.mono sm⟩, DnR.mono sm h.2⟩
  | [], _ :: _, h => h.elim
  | _ :: _, [], h => h.elim
theorem DnR.len {K : PySem.W.Frag} {F : Hp} : ∀ {L : List NE} {ps : Kps}, DnR K F L ps → L.length = ps.length
  | [], [], _ => rfl
  | _ :: _, _ :: _, h => congrArg (· + 1) (DnR.len h.2)
  | [], _ :: _, h => h.elim
  | _ :: _, [], h => h.elim
theorem DnR.keys {K : PySem.W.Frag} {F H : Hp} (e : Same F H) : ∀ {L : List NE} {ps : Kps}, DnR K F L ps → KeysOk H L
  | [], [], _, p, m => by cases m
  | x :: L, q :: ps, h, p, m => by
    rcases List.mem_cons.mp m with rfl | m
    · rw [h.1.1]; exact h.1.2.1.key e h.1.2.2.1
    · exact DnR.keys e h.2 p m
  | [], _ :: _, h, _, _ => h.elim
  | _ :: _, [], h, _, _ => h.elim
def lookK (ps : Kps) (k : NestedKey) : Option D := (ps.find? fun p => decide (p.1 = k)).map (·.2.2)
def putKp (ps : Kps) (k : NestedKey) (x y : D) : Kps := if (lookK ps k).isSome = true then ps.map (fun p => if p.1 = k then (p.1, p.2.1, y) else p) else ps ++ [(k, x, y)]
theorem DnR.look {K : PySem.W.Frag} {F : Hp} (k : NestedKey) : ∀ {L : List NE} {ps : Kps}, DnR K F L ps → (lookN L k = none ∧ lookK ps k = none) ∨ ∃ v y, lookN L k = some v ∧ lookK ps k = some y ∧ Rep K F v y
  | [], [], _ => .inl ⟨rfl, rfl⟩
  | p :: L, q :: ps, h => by
    by_cases e : p.1 = k
    · exact .inr ⟨p.2.2, q.2.2, by simp [lookN, List.find?_cons, e], by simp [lookK, List.find?_cons, h.1.1 ▸ e], h.1.2.2.2⟩
    · have a : lookN (p :: L) k = lookN L k := by simp [lookN, List.find?_cons, e]
      have b : lookK (q :: ps) k = lookK ps k := by simp [lookK, List.find?_cons, h.1.1 ▸ e]
      rw [a, b]
      exact DnR.look k h.2
  | [], _ :: _, h => h.elim
  | _ :: _, [], h => h.elim
theorem DnR.repl {K : PySem.W.Frag} {F : Hp} {k : NestedKey} {v : V} {y : D} (r : Rep K F v y) : ∀ {L : List NE} {ps : Kps}, DnR K F L ps → DnR K F (L.map fun p => if p.1 = k then (p.1, p.2.1, v) else p) (ps.map fun p => if p.1 = k then (p.1, p.2.1, y) else p)
  | [], [], _ => trivial
  | p :: L, q :: ps, h => by
    have t := DnR.repl (k := k) r h.2
    by_cases e : p.1 = k
    · have e2 : q.1 = k := h.1.1 ▸ e
      rw [List.map_cons, List.map_cons, if_pos e, if_pos e2]
      exact ⟨⟨h.1.1, h.1.2.1, h.1.2.2.1, r⟩, t⟩
    · have e2 : ¬ q.1 = k := h.1.1 ▸ e
      rw [List.map_cons, List.map_cons, if_neg e, if_neg e2]
      exact ⟨h.1, t⟩
  | [], _ :: _, h => h.elim
  | _ :: _, [], h => h.elim
theorem DnR.snoc {K : PySem.W.Frag} {F : Hp} {p : NE} {q : NestedKey × D × D} (hp : p.1 = q.1 ∧ KeyD q.2.1 q.1 ∧ Rep K F (.ref p.2.1) q.2.1 ∧ Rep K F p.2.2 q.2.2) : ∀ {L : List NE} {ps : Kps}, DnR K F L ps → DnR K F (L ++ [p]) (ps ++ [q])
  | [], [], _ => ⟨hp, trivial⟩
  | _ :: _, _ :: _, h => ⟨h.1, DnR.snoc hp h.2⟩
  | [], _ :: _, h => h.elim
  | _ :: _, [], h => h.elim
theorem DnR.put {K : PySem.W.Frag} {F : Hp} {L : List NE} {ps : Kps} (h : DnR K F L ps) {k : NestedKey} {b : Addr} {v : V} {x y : D} (hk : KeyD x k) (rx : Rep K F (.ref b) x) (ry : Rep K F v y) : DnR K F (putN L k b v) (putKp ps k x y) := by
  unfold putN putKp
  rcases h.look k with ⟨h1, h2⟩ | ⟨u, z, h1, h2, _⟩
  · rw [h1, h2]
    exact h.snoc ⟨rfl, hk, rx, ry⟩
  · rw [h1, h2]
    exact h.repl ry
def noLp : Kps → Bool
  | [] => true
  | p :: ps => noL p.2.1 && noL p.2.2 && noLp ps
theorem DnR.noDrop {K : PySem.W.Frag} {F F' : Hp} (e : ∀ b xs, F b = some (.tup xs) → F' b = some (.tup xs)) : ∀ {L : List NE} {ps : Kps}, DnR K F L ps → noLp ps = true → DnR K F' L ps
  | [], [], _, _ => trivial
  | _ :: _, q :: ps, h, n => by
    rw [noLp, Bool.and_eq_true, Bool.and_eq_true] at n
    exact ⟨⟨h.1.1, h.1.2.1, Rep.noDrop e h.1.2.2.1 n.1.1, Rep.noDrop e h.1.2.2.2 n.1.2⟩, DnR.noDrop e h.2 n.2⟩
  | [], _ :: _, h, _ => h.elim
  | _ :: _, [], h, _ => h.elim
def dnS (P : Program) (w : World) (a : Addr) (ps : Kps) : GS where
  root := a
  foot := [a]
  at' := fun K F H => ∃ L, H a = some (DicNO P w a L) ∧ DnR K F L ps
  mono := fun ⟨L, h1, h2⟩ sm e => ⟨L, by rw [e a (List.mem_singleton.mpr rfl)]; exact h1, h2.mono sm⟩
  muts := fun ⟨L, h1, _⟩ p m => by rw [List.mem_singleton.mp m]; exact ⟨_, h1, dn_mut⟩
  nl := noLp ps
  drop := fun n _ _ _ _ e ⟨L, h1, h2⟩ => ⟨L, h1, h2.noDrop e n⟩
abbrev nB (P : Program) (w : World) (a : Addr) (ps : Kps) : Option Cell := some (.box (.gen (dnS P w a ps)))
def dnF (P : Program) (w : World) (a : Addr) (ps : Kps) : GS where
  root := a
  foot := []
  at' := fun K F H => ∃ L, F a = some (DicNO P w a L) ∧ DnR K F L ps
  mono := fun ⟨L, h1, h2⟩ sm _ => ⟨L, sm _ _ h1, h2.mono sm⟩
  muts := fun _ p m => by cases m
  nl := false
  drop := fun n => by cases n
abbrev nF (P : Program) (w : World) (a : Addr) (ps : Kps) : Option Cell := some (.box (.gen (dnF P w a ps)))
def IsN (P : Program) (w : World) (a : Addr) (ps : Kps) (c : Option Cell) : Prop := c = nB P w a ps ∨ c = nF P w a ps
theorem IsN.look [TJ] {P : Program} {w : World} {K : PySem.W.Frag} {G F H : Hp} {σ : L2.St} {ρ : Ro} {a : Addr} {ps : Kps} {c : Option Cell} {i : Nat} (S : Sim K G F H σ ρ) (e : ρ[i]? = some c) (h : IsN P w a ps c) : σ[i]? = some (some (.ref a)) ∧ ∃ L, H a = some (DicNO P w a L) ∧ DnR K F L ps := by
  rcases h with rfl | rfl
  · obtain ⟨g1, g2, L, g3, g4⟩ := S.bx.box i _ e
    exact ⟨g1, L, g3, g4⟩
  · obtain ⟨g1, g2, L, g3, g4⟩ := S.bx.box i _ e
    exact ⟨g1, L, S.hF _ _ g3, g4⟩
section
variable [TJ] {X : Cx} {e a b value : Expr} {te tb ta tv : TE} {Te Tb Ta Tv : TEp} {pos : Pos}
def pNNew (P : Program) (w : World) : TCp := fun ρ Q => ∀ a, Q (.box (.gen (dnS P w a []))) ρ
theorem ppc_nnew : PPC X (.Dict [] [] pos) (tDNew X.prog X.w) (pNNew X.prog X.w) := ⟨pe_dnew, fun G F H σ ρ Q R S hT k p hp =>
  k (.ref p) _ F _ ρ (.refl _ _) ((S.more (o := DicNO X.prog X.w p []) hp).pushBox (s := .gen (dnS X.prog X.w p [])) (fun q m => by rw [List.mem_singleton.mp m]; exact ⟨S.freshF hp, S.freshG hp⟩) ⟨[], upd_same, trivial⟩ fun q m => by rw [List.mem_singleton.mp m]; exact S.notOwn hp) (hT p)⟩
def pNGet (P : Program) (w : World) (i : Nat) (Tb : TEp) : TEp := fun ρ Q => ∃ a ps0 c0, ρ[i]? = some c0 ∧ IsN P w a ps0 c0 ∧ Tb ρ fun y ρ1 => ∃ ps k v c1, ρ1[i]? = some c1 ∧ IsN P w a ps c1 ∧ KeyD y k ∧ lookK ps k = some v ∧ Q v ρ1
theorem ppe_nget (i : Nat) {x : Str} {p : Pos} (hu : X.A.units + 64 < cLine) (hb : PPE X b tb Tb) (hs : NoSl b := by exact fun _ _ => rfl) (hN : X.N[i]? = some x := by rfl) (hv : Vis X.env.scope x := by first | exact Or.inl rfl | exact Or.inr (Or.inl rfl) | exact Or.inr (Or.inr rfl)) (hd : (x == ("__debug__" : Str)) = false := by decide)
    (hcd : (x == ("__classdict__" : Str)) = false := by decide) : PPE X (.Subscript (.Name x p) b pos) (tNGet X.prog X.w (tVar i) tb) (pNGet X.prog X.w i Tb) := ⟨pe_nget hu (pe_var hN hv hd hcd) hb.pe hs, fun G F H σ ρ Q R S hT k => by
  obtain ⟨a, ps0, c0, e, n0, hT⟩ := hT
  refine ⟨.ref a, (IsN.look S e n0).1, hb.snd G F H σ ρ _ _ S hT fun y dy F1 H1 ρ1 u1 S1 r1 q1 => ?_⟩
  obtain ⟨ps, kk, v, c1, e1, n1, hk, el, q⟩ := q1
  obtain ⟨g1, L, g3, g4⟩ := IsN.look S1 e1 n1
  obtain ⟨bb, rfl⟩ := hk.ref r1
  rcases g4.look kk with ⟨_, z⟩ | ⟨w1, y1, z1, z2, z3⟩
  · rw [z] at el; cases el
  · have ev : y1 = v := Option.some.inj (z2.symm.trans el)
    subst ev
    exact ⟨a, bb, L, kk, w1, ⟨rfl, rfl, g3, g4.keys S1.hF, hk.key S1.hF r1⟩, z1, k w1 y1 F1 H1 ρ1 u1 S1 z3 q⟩⟩
def pNIn (P : Program) (w : World) (i : Nat) (Ta : TEp) : TEp := fun ρ Q => Ta ρ fun y ρ1 => ∃ a ps k c, ρ1[i]? = some c ∧ IsN P w a ps c ∧ KeyD y k ∧ Q (.bl (lookK ps k).isSome) ρ1
theorem DnR.some {K : PySem.W.Frag} {F : Hp} {L : List NE} {ps : Kps} (h : DnR K F L ps) (k : NestedKey) : (lookN L k).isSome = (lookK ps k).isSome := by
  rcases h.look k with ⟨h1, h2⟩ | ⟨u, z, h1, h2, _⟩
  · rw [h1, h2]; rfl
  · rw [h1, h2]; rfl
theorem ppe_nin (i : Nat) {x : Str} {p : Pos} (hu : X.A.units + 64 < cLine) (ha : PPE X a ta Ta) (hN : X.N[i]? = some x := by rfl) (hv : Vis X.env.scope x := by first | exact Or.inl rfl | exact Or.inr (Or.inl rfl) | exact Or.inr (Or.inr rfl)) (hd : (x == ("__debug__" : Str)) = false := by decide)
    (hcd : (x == ("__classdict__" : Str)) = false := by decide) (h1 : behindInMarks .In (.Name x p) = false := by rfl) : PPE X (.Compare a [.In] [.Name x p] pos) (tNIn X.prog X.w ta (tVar i)) (pNIn X.prog X.w i Ta) := ⟨pe_cmp (pc_nin hu ha.pe (pe_var hN hv hd hcd)) h1, fun G F H σ ρ Q R S hT k =>
  ha.snd G F H σ ρ _ _ S hT fun y dy F1 H1 ρ1 u1 S1 r1 q1 => by
    obtain ⟨a, ps, kk, c, e1, n1, hk, q⟩ := q1
    obtain ⟨g1, L, g3, g4⟩ := IsN.look S1 e1 n1
    obtain ⟨bb, rfl⟩ := hk.ref r1
    refine ⟨.ref a, g1, a, bb, L, kk, ⟨rfl, rfl, g3, g4.keys S1.hF, hk.key S1.hF r1⟩, ?_⟩
    rw [g4.some]
    exact k _ _ F1 H1 ρ1 u1 S1 (.bl _) q⟩
theorem ppt_nin (i : Nat) {x : Str} {p : Pos} (hu : X.A.units + 64 < cLine) (ha : PPE X a ta Ta) (hN : X.N[i]? = some x := by rfl) (hv : Vis X.env.scope x := by first | exact Or.inl rfl | exact Or.inr (Or.inl rfl) | exact Or.inr (Or.inr rfl)) (hd : (x == ("__debug__" : Str)) = false := by decide)
    (hcd : (x == ("__classdict__" : Str)) = false := by decide) (h1 : behindInMarks .In (.Name x p) = false := by rfl) : PPT X (.Compare a [.In] [.Name x p] pos) (tB (tNIn X.prog X.w ta (tVar i))) (pTest (pNIn X.prog X.w i Ta)) := ⟨pt_cmp (pc_nin hu ha.pe (pe_var hN hv hd hcd)) h1, snd_test (ppe_nin i (p := p) (pos := pos) hu ha hN hv hd hcd h1).snd⟩
def pNPut (P : Program) (w : World) (i : Nat) (Tb Tv : TEp) : TSp := fun E ρ => Tv ρ fun y ρ1 => ∃ a ps0, ρ1[i]? = some (nB P w a ps0) ∧ Tb ρ1 fun x ρ2 => ∃ ps k, ρ2[i]? = some (nB P w a ps) ∧ KeyD x k ∧ ps.length < sizeLine ∧ E.nx (ρ2.set i (nB P w a (putKp ps k x y)))
theorem pps_nput (i : Nat) {x : Str} {p pos' : Pos} (hu : X.A.units + 64 < cLine) (hb : PPE X b tb Tb) (hv' : PPE X value tv Tv) (hs : swapsWith value (some (.Subscript (.Name x p) b pos')) pos.line X.env = pure false := by rfl) (hN : X.N[i]? = some x := by rfl) (hv : Vis X.env.scope x := by first | exact Or.inl rfl | exact Or.inr (Or.inl rfl) | exact Or.inr (Or.inr rfl)) (hd : (x == ("__debug__" : Str)) = false := by decide)
    (hcd : (x == ("__classdict__" : Str)) = false := by decide) : PPS X (.Assign [.Subscript (.Name x p) b pos'] value pos) (sNPut X.prog X.w (tVar i) tb tv) (pNPut X.prog X.w i Tb Tv) := ⟨ps_nput hu (pe_var hN hv hd hcd) hb.pe hv'.pe hs, fun G F H σ ρ P D S hT r =>
  hv'.snd G F H σ ρ _ _ S hT fun v dv F1 H1 ρ1 u1 S1 r1 q1 => by
    obtain ⟨a, ps0, e, q1⟩ := q1
    obtain ⟨g1, _, _⟩ := S1.bx.box i _ e
    refine ⟨.ref a, g1, hb.snd G F1 H1 σ ρ1 _ _ S1 q1 fun y dy F2 H2 ρ2 u2 S2 r2 q2 => ?_⟩
    obtain ⟨ps, kk, e2, hk, hl, q⟩ := q2
    obtain ⟨b1, b2, L, b3, b4⟩ := S2.bx.box i _ e2
    obtain ⟨bb, rfl⟩ := hk.ref r2
    refine ⟨a, bb, L, kk, ⟨rfl, rfl, b3, b4.keys S2.hF, hk.key S2.hF r2⟩, by rw [b4.len]; exact hl, ?_⟩
    exact r.nx F2 _ _ _ (u1.trans u2) (S2.mutBox (s' := .gen (dnS X.prog X.w a (putKp ps kk dy dv))) e2 rfl (fun p m => m) (fun p m => upd_ne fun z => m (by subst z; exact List.mem_singleton.mpr rfl)) (S2.hG.mut (b2 a (List.mem_singleton.mpr rfl)).2 b3 dn_mut) ⟨_, upd_same, b4.put hk r2 (r1.mono u2.ex)⟩) q⟩
end
end Pl
namespace Pl
open PySem PySem.Spec PyProof.Rows L2
def Itn (P : Program) (w : World) (d : Addr) (o : Obj) (L : List NE) : It :=
  ⟨fun i H => H d = some (.frz o (DicNO P w d L)) ∧ i < L.length, fun i H x H' => H' = H ∧ ∃ p, L[i]? = some p ∧ x = .ref p.2.1, fun i H => H d = some (.frz o (DicNO P w d L)) ∧ L.length ≤ i⟩
theorem frzN {X : Cx} {pins : List (Addr × Obj)} {σ : L2.St} {H : Hp} {s : Shared} {d : Addr} {o : Obj} {L : List NE} (I : Inv X pins σ H s) (h : H d = some (.frz o (DicNO X.prog X.w d L))) :
    (d == sysModules) = false ∧ s.heap.get? d = some o ∧ o.ExactDict ∧ ∃ (es : Array DictEntry) (ep : Nat), o.data = .dict es ep ∧ es.size = L.length ∧
      ∀ (i : Nat) (p : NE), L[i]? = some p → ∃ en : DictEntry, es[i]? = some en ∧ en.key = .ref p.2.1 := by
  obtain ⟨hd, ⟨z, hs, xs, pr, o', es, ep, ho, hx, hdt, he, _⟩, _⟩ := I.hok d _ h
  rw [hd] at ho
  cases ho
  refine ⟨hs, hd, hx, es, ep, hdt, ?_, fun i p e => ?_⟩
  · have l1 : es.size = xs.length := size_of_entries he
    have l2 := pr.len
    omega
  · obtain ⟨b, hb, e1, e2, _⟩ := paired_get pr e
    have q := entry_at he i
    rw [hb] at q
    exact ⟨_, q, by show Value.ref b.2.1 = .ref p.2.1; rw [e2]⟩
section
variable {P : Program} {w : World} {K : PySem.W.Frag} {tg : Expr} {d : Addr} {o : Obj} {es : Array DictEntry} {ep : Nat}
theorem turn_keysN {L : List NE} (it : Addr) (hod : o.data = .dict es ep) : Turn P w K tg (Itn P w d o L) [it] it (fun i h => h.IsKeyIter it d i L.length ep) where
  mem := by simp
  obj := fun i h st b hb => by
    have e : b = it := by simpa using hb
    subst e
    obtain ⟨oi, e, c, dd⟩ := st
    exact ⟨oi, e, fun v z => by rw [dd] at z; cases z⟩
  keep := fun i h h' st k => st.at fun oi e => k it (by simp) oi e
  item := by
    intro X hP hw hK hc i pins s σ H E I hf st hg
    subst hP hw hK
    obtain ⟨hd, hi⟩ := hg
    obtain ⟨f0, f1, f2, f3, f4, f5⟩ := hf it (by simp)
    obtain ⟨hs, hgd, hx, es', ep', hdt, hsz, ent⟩ := frzN I hd
    obtain ⟨rfl, rfl⟩ := dict_ep hod hdt
    obtain ⟨p, hkv⟩ : ∃ p, L[i]? = some p := ⟨L[i], List.getElem?_eq_getElem hi⟩
    obtain ⟨en, hen, hkey⟩ := ent i p hkv
    refine next_key_item st hgd hdt hsz hen fun h' st' sb => ?_
    have I1 : Inv X pins σ H { s with heap := h' } := I.turned (t' := s.toks) (fun b ob hb e => (sb.2 b hb).trans e) f0 f1 f3 f4 f5
    obtain ⟨oi, e, c, dd⟩ := id st'
    exact ⟨en.key, rfl, go_of (s := { s with heap := h' }) e c dd (by decide) ⟨.ref p.2.1, H, I1, hkey, ⟨rfl, p, hkv, rfl⟩, st', fun b hb => (hf b hb).1⟩⟩
  done := by
    intro X hP hw hK hc i pins s σ H E I hf st hg
    subst hP hw hK
    obtain ⟨hd, hi⟩ := hg
    obtain ⟨f0, f1, f2, f3, f4, f5⟩ := hf it (by simp)
    obtain ⟨hs, hgd, hx, es', ep', hdt, hsz, ent⟩ := frzN I hd
    obtain ⟨rfl, rfl⟩ := dict_ep hod hdt
    exact next_key_end (I.ok.hd hc) st hgd hdt hsz hi fun h' eb => ⟨rfl, I.turned (t' := s.toks) (fun b ob hb e => eb b ob hb e) f0 f1 f3 f4 f5⟩
  self := fun A i s Q E st h => by
    refine wpAny_pyIter_slot st.typeIs F.slot_dict_keyiterator_iter (wpAny_call_entry F.slot_dict_keyiterator_iter st.typeIs F.entry_dict_keyiterator_iter ?_ (F.args_dict_keyiterator_iter_1 _))
    show wpAny _ _ (ret (.ref it)) _ _ s
    exact wpAny_pure ⟨_, rfl, "dict_keyiterator", _, st.typeIs, F.slot_dict_keyiterator_next.lookup, h⟩
end
def iKeysN (P : Program) (w : World) (td : TE) : TI := fun σ H R => td σ H fun x H1 => ∃ d o L, x = .ref d ∧ H1 d = some (.frz o (DicNO P w d L)) ∧ R (Itn P w d o L) H1
theorem pi_keysN {X : Cx} {tg e : Expr} {td : TE} (he : PE X e td) : PI X tg e (iKeysN X.prog X.w td) := by
  refine ⟨fun pins s σ H R I h => ?_⟩
  refine thn (he.run pins s σ H _ I h) fun u s1 ⟨x, H1, I1, rx, d, o, L, ex, hd, q⟩ => ?_
  subst ex
  obtain rfl : u = Value.ref d := rx
  obtain ⟨hs, hgd, hx, es, ep, hdt, hsz, ent⟩ := frzN I1 hd
  refine iter_keys hs hgd hx hdt (pi_one (tk := s1.toks) I1 _ (turn_keysN _ hdt) ⟨_, Heap.get?_push_size _ rfl, rfl, ?_⟩ q)
  rw [hsz] <;> rfl
def dnL (P : Program) (w : World) (a : Addr) (o : Obj) (L : List NE) (ps : Kps) : GS where
  root := a
  foot := [a]
  at' := fun K F H => H a = some (.frz o (DicNO P w a L)) ∧ DnR K F L ps
  mono := fun ⟨h1, h2⟩ sm e => ⟨by rw [e a (List.mem_singleton.mpr rfl)]; exact h1, h2.mono sm⟩
  muts := fun ⟨h1, _⟩ p m => by rw [List.mem_singleton.mp m]; exact ⟨_, h1, trivial⟩
  nl := noLp ps
  drop := fun n _ _ _ _ e ⟨h1, h2⟩ => ⟨h1, h2.noDrop e n⟩
abbrev nLk (P : Program) (w : World) (a : Addr) (o : Obj) (L : List NE) (ps : Kps) : Option Cell := some (.box (.gen (dnL P w a o L ps)))
abbrev keysK (ps : Kps) : List D := ps.map (·.2.1)
theorem dnr_key {K : PySem.W.Frag} {F : Hp} : ∀ {L : List NE} {ps : Kps} {j : Nat} {p : NE}, DnR K F L ps → L[j]? = some p → ∃ q, (keysK ps)[j]? = some q ∧ Rep K F (.ref p.2.1) q
  | x :: L, q :: ps, 0, p, h, e => by cases e; exact ⟨_, rfl, h.1.2.2.1⟩
  | x :: L, q :: ps, j + 1, p, h, e => dnr_key (j := j) h.2 e
  | [], [], _, _, _, e => by cases e
  | [], _ :: _, _, _, h, _ => h.elim
  | _ :: _, [], _, _, h, _ => h.elim
variable [TJ]
theorem Sim.unlockN {P : Program} {w : World} {K : PySem.W.Frag} {G F H : Hp} {σ : L2.St} {ρ : Ro} {i : Nat} {a : Addr} {o : Obj} {kvs : List NE} {ps : Kps} (S : Sim K G F H σ ρ) (e : ρ[i]? = some (nLk P w a o kvs ps)) : H a = some (.frz o (DicNO P w a kvs)) ∧ Sim K G F (upd H a (DicNO P w a kvs)) σ (ρ.set i (nB P w a ps)) := by
  obtain ⟨b1, b2, b3, b4⟩ := S.bx.box i _ e
  exact ⟨b3, S.mutBox (s' := .gen (dnS P w a ps)) e rfl (fun p m => m) (fun p m => upd_ne fun z => m (by subst z; exact List.mem_singleton.mpr rfl)) (S.hG.mut (b2 a (List.mem_singleton.mpr rfl)).2 b3) ⟨kvs, upd_same, b4⟩⟩
theorem Sim.lockN {P : Program} {w : World} {K : PySem.W.Frag} {G F H : Hp} {σ : L2.St} {ρ : Ro} {i : Nat} {a : Addr} {ps : Kps} (S : Sim K G F H σ ρ) (e : ρ[i]? = some (nB P w a ps)) : ∃ kvs : List NE, H a = some (DicNO P w a kvs) ∧ DnR K F kvs ps ∧ ∀ o, Sim K G F (upd H a (.frz o (DicNO P w a kvs))) σ (ρ.set i (nLk P w a o kvs ps)) := by
  obtain ⟨b1, b2, kvs, b3, b4⟩ := S.bx.box i _ e
  exact ⟨kvs, b3, b4, fun o => S.mutBox (s' := .gen (dnL P w a o kvs ps)) e rfl (fun p m => m) (fun p m => upd_ne fun z => m (by subst z; exact List.mem_singleton.mpr rfl)) (S.hG.mut (b2 a (List.mem_singleton.mpr rfl)).2 b3 dn_mut) ⟨upd_same, b4⟩⟩
def unlkN (P : Program) (w : World) (i : Nat) (a : Addr) (o : Obj) (kvs : List NE) (ps : Kps) (Q : Ro → Prop) : Ro → Prop := fun ρ => ρ[i]? = some (nLk P w a o kvs ps) ∧ Q (ρ.set i (nB P w a ps))
def lcNW (P : Program) (w : World) (i : Nat) (a : Addr) (o : Obj) (kvs : List NE) (ps : Kps) (vs : List Nat) (g : TGp) (tt : TTp) (te : TEp) (Q : List D → Ro → Prop) : List D → List D → Ro → Prop
  | [], acc, ρ => unlkN P w i a o kvs ps (Q acc) ρ
  | d :: ds, acc, ρ => ρ[i]? = some (nLk P w a o kvs ps) ∧ g d (wipeP ρ vs) fun ρ2 => tt ρ2 fun b ρ3 => if b = true then te ρ3 fun y ρ4 => acc.length < sizeLine ∧ lcNW P w i a o kvs ps vs g tt te Q ds (acc ++ [y]) (restore ρ ρ4 vs) else lcNW P w i a o kvs ps vs g tt te Q ds acc (restore ρ ρ3 vs)
def pLcON (P : Program) (w : World) (i : Nat) (g : TGp) (tt : TTp) (te : TEp) (vs : List Nat) : TCp := fun ρ Q => ∃ a ps, ρ[i]? = some (nB P w a ps) ∧ ∀ o kvs, kvs.length = ps.length → lcNW P w i a o kvs ps vs g tt te (fun acc ρ2 => ∀ p, Q (.own p acc) ρ2) (keysK ps) [] (ρ.set i (nLk P w a o kvs ps))
theorem snd_lcN2 {P : Program} {w : World} {K : PySem.W.Frag} {i : Nat} {g : TG} {Gp : TGp} {is : List Nat} {tt : TT} {Tt : TTp} {te : TE} {Te : TEp} {vs : List Nat} (hg : SndG K g Gp is) (ht : SndT K tt Tt) (he : SndE K te Te) (hsub : ∀ i ∈ is, i ∈ vs) : SndC K (tLockE (tLc (iKeysN P w (tVar i)) g tt te vs)) (pLcON P w i Gp Tt Te vs) := fun G F H σ ρ Q R S h k => by
  obtain ⟨a, ps, e, h⟩ := h
  have b1 := (S.bx.box i _ e).1
  obtain ⟨kvs, b3, b4, SL⟩ := S.lockN e
  refine ⟨a, DicNO P w a kvs, b3, trivial, fun od => ?_⟩
  have w1 := h od kvs b4.len
  refine ⟨.ref a, b1, a, od, kvs, rfl, upd_same, fun D hD => ?_⟩
  refine ⟨fun j m H' => m + j = ps.length ∧ ∃ F' ρ' acc, Up G F F' ∧ Sim K G F' H' (σ ++ [some (.ref D)]) (ρ' ++ [some (.own D acc)]) ∧ lcNW P w i a od kvs ps vs Gp Tt Te (fun acc ρ2 => ∀ p, Q (.own p acc) ρ2) ((keysK ps).drop j) acc ρ', ⟨ps.length, by omega, F, _, [], .refl _ _, (SL od).newOwn hD .nil, w1⟩, fun j m H' hW => ?_⟩
  obtain ⟨hm, F', ρ', acc, u', S0, w'⟩ := hW
  have S' := S0.drop
  obtain ⟨_, hFD, hGD, hnD, av, hHD, rD⟩ := S0.lastOwn
  by_cases hlt : j < ps.length
  · rw [List.drop_eq_getElem_cons (by simpa using hlt)] at w'
    obtain ⟨e', w'⟩ := w'
    have c3 := (S'.unlockN e').1
    refine .inr ⟨⟨c3, by rw [b4.len]; exact hlt⟩, fun H'' => ∃ F'' ρ'' acc, Up G F F'' ∧ Sim K G F'' H'' (σ ++ [some (.ref D)]) (ρ'' ++ [some (.own D acc)]) ∧ lcNW P w i a od kvs ps vs Gp Tt Te (fun acc ρ2 => ∀ p, Q (.own p acc) ρ2) ((keysK ps).drop (j + 1)) acc ρ'', fun H'' q => ⟨m - 1, by omega, by omega, q⟩, fun x H'' hy => ?_⟩
    obtain ⟨rfl, pp, hk, rfl⟩ := hy
    have d4 := (S'.bx.box i _ e').2.2.2
    obtain ⟨qq, hq, rk⟩ := dnr_key d4 hk
    have ek : (keysK ps)[j]'(by simpa using hlt) = qq := by
      have h2 : (keysK ps)[j]? = some ((keysK ps)[j]'(by simpa using hlt)) := List.getElem?_eq_getElem _
      exact Option.some.inj (h2.symm.trans hq)
    rw [ek] at w'
    have Sg := S'.guard hHD hnD
    have hGG : Same G (upd G D (.lst av)) := same_new hGD
    refine hg (upd G D (.lst av)) F' _ (wipe σ vs) (wipeP ρ' vs) _ _ (.ref pp.2.1) _ (Sg.wipe vs) rk w' fun F3 H3 σ3 ρ3 u3 S3 o3 l3 q3 => ?_
    have hl3 : σ3.length = σ.length := by rw [l3, wipe_length]
    have ho3 : ∀ j, j ∉ vs → σ3[j]? = (wipe σ vs)[j]? := fun j hj => o3 j fun z => hj (hsub j z)
    have hoσ : ∀ j, j ∉ vs → σ3[j]? = σ[j]? := fun j hj => by rw [ho3 j hj, wipe_get, if_neg (fun q => hj q.1)]
    refine ⟨wipe_eq hl3 ho3, ht (upd G D (.lst av)) F3 H3 σ3 ρ3 _ _ S3 q3 fun b F4 H4 ρ4 u4 S4 q4 => ?_⟩
    cases b with
    | true =>
      refine ite_ti (he (upd G D (.lst av)) F4 H4 σ3 ρ4 _ _ S4 (ite_t q4) fun y dy F5 H5 ρ5 u5 S5 r5 q5 => ?_)
      have up := (u3.trans u4).trans u5
      have hH5 : H5 D = some (.lst av) := S5.hG D _ upd_same
      have hF5 : F5 D = none := up.isNone hFD upd_same
      have S6 : Sim K G F5 H5 σ (Pl.restore ρ' ρ5 vs) := S'.restore S5 hGG up.ex hl3 hoσ
      have hn6 : NotOwn (Pl.restore ρ' ρ5 vs) D := ⟨fun j xs e => (by
        rcases restore_get e with ⟨_, _, e', _⟩ | ⟨_, r⟩
        · cases e'
        · have := (S5.own j D xs r).2.2.1
          rw [upd_same] at this; cases this), fun m => S5.bx.notG upd_same (restore_box m)⟩
      have r6 : Reps K F5 (av ++ [y]) (acc ++ [dy]) := (rD.mono up.ex).append (.one r5)
      refine ⟨av, hH5, by rw [rD.length]; exact q5.1, F5, _, acc ++ [dy], u'.trans (up.less hGG), ?_, q5.2⟩
      exact (S6.updFree hH5 hF5 hGD hn6).pushOwn upd_same hF5 hGD hn6 r6
    | false =>
      refine ite_fi ⟨F4, _, acc, u'.trans ((u3.trans u4).less hGG), ?_, ite_f q4⟩
      have up := u3.trans u4
      have hH4 : H4 D = some (.lst av) := S4.hG D _ upd_same
      have hF4 : F4 D = none := up.isNone hFD upd_same
      have S6 : Sim K G F4 H4 σ (Pl.restore ρ' ρ4 vs) := S'.restore S4 hGG up.ex hl3 hoσ
      have hn6 : NotOwn (Pl.restore ρ' ρ4 vs) D := ⟨fun j xs e => (by
        rcases restore_get e with ⟨_, _, e', _⟩ | ⟨_, r⟩
        · cases e'
        · have := (S4.own j D xs r).2.2.1
          rw [upd_same] at this; cases this), fun m => S4.bx.notG upd_same (restore_box m)⟩
      exact S6.pushOwn hH4 hF4 hGD hn6 (rD.mono up.ex)
  · rw [List.drop_eq_nil_of_le (by simp; omega)] at w'
    obtain ⟨e4, q4⟩ := w'
    obtain ⟨h1, S5⟩ := S0.unlockN (at_more e4)
    rw [List.set_append_left _ _ (at_lt e4)] at S5
    exact .inl ⟨⟨h1, by rw [b4.len]; omega⟩, h1, k _ _ F' _ _ u' S5 (q4 D)⟩
section
variable {X : Cx} {elt tg : Expr} {ifs : List Expr} {scope : Scope} {own : List (Str × Nat)} {pos : Pos} {g : TG} {Gp : TGp} {is : List Nat} {tt : TT} {Tt : TTp} {te : TE} {Te : TEp}
theorem ppc_lcN2 (i : Nat) {x : Str} {p : Pos} (hc : X.calm = true) (hN : X.N.Nodup) (ok : BlkOk X.N X.env.scope scope own)
    (hg : ∀ (s : Shared) (H : Hp) (C : Addr) (cl : List (Str × Addr)) (fp : List Addr), PTg (X.blk s H scope (compEnvC scope cl C X.env) fp) tg g Gp is) (ht : ∀ (s : Shared) (H : Hp) (C : Addr) (cl : List (Str × Addr)) (fp : List Addr), PPTs (X.blk s H scope (compEnvC scope cl C X.env) fp) ifs tt Tt)
    (he : ∀ (s : Shared) (H : Hp) (C : Addr) (cl : List (Str × Addr)) (fp : List Addr), PPE (X.blk s H scope (compEnvC scope cl C X.env) fp) elt te Te) (hs : ∀ v, foldedSetIterable (.Name x p) X.env v = pure v := by intro _; rfl) (hsub : ∀ i ∈ is, i ∈ own.map (·.2) := by decide)
    (hN2 : X.N[i]? = some x := by rfl) (hv : Vis X.env.scope x := by first | exact Or.inl rfl | exact Or.inr (Or.inl rfl) | exact Or.inr (Or.inr rfl)) (hd : (x == ("__debug__" : Str)) = false := by decide)
    (hcd : (x == ("__classdict__" : Str)) = false := by decide) :
    PPC X (.ListComp elt [⟨tg, .Name x p, ifs, 0⟩] scope pos) (tLockE (tLc (iKeysN X.prog X.w (tVar i)) g tt te (own.map (·.2)))) (pLcON X.prog X.w i Gp Tt Te (own.map (·.2))) :=
  ⟨pe_lock (pe_lc hc hN (pi_keysN (pe_var hN2 hv hd hcd)) ok (fun s H C cl fp => (hg s H C cl fp).pg) (fun s H C cl fp => (ht s H C cl fp).pt) (fun s H C cl fp => (he s H C cl fp).pe) hs), snd_lcN2 (hg X.s_0 (fun _ => none) 0 [] []).snd (ht X.s_0 (fun _ => none) 0 [] []).snd (he X.s_0 (fun _ => none) 0 [] []).snd hsub⟩
theorem ppc_lcN2L (i : Nat) {x : Str} {p : Pos} (hc : X.calm = true) (hN : X.N.Nodup) (ok : BlkOk X.N X.env.scope scope own)
    (hg : ∀ (s : Shared) (H : Hp) (C : Addr) (cl : List (Str × Addr)) (fp : List Addr), PTg (X.blk s H scope (compEnvC scope cl C X.env) fp) tg (liftG X.K Gp is) Gp is) (ht : ∀ (s : Shared) (H : Hp) (C : Addr) (cl : List (Str × Addr)) (fp : List Addr), PPTs (X.blk s H scope (compEnvC scope cl C X.env) fp) ifs (liftT X.K Tt) Tt)
    (he : ∀ (s : Shared) (H : Hp) (C : Addr) (cl : List (Str × Addr)) (fp : List Addr), PPE (X.blk s H scope (compEnvC scope cl C X.env) fp) elt (liftE X.K Te) Te) (hs : ∀ v, foldedSetIterable (.Name x p) X.env v = pure v := by intro _; rfl) (hsub : ∀ i ∈ is, i ∈ own.map (·.2) := by decide)
    (hN2 : X.N[i]? = some x := by rfl) (hv : Vis X.env.scope x := by first | exact Or.inl rfl | exact Or.inr (Or.inl rfl) | exact Or.inr (Or.inr rfl)) (hd : (x == ("__debug__" : Str)) = false := by decide)
    (hcd : (x == ("__classdict__" : Str)) = false := by decide) :
    PPC X (.ListComp elt [⟨tg, .Name x p, ifs, 0⟩] scope pos) (tLockE (tLc (iKeysN X.prog X.w (tVar i)) (liftG X.K Gp is) (liftT X.K Tt) (liftE X.K Te) (own.map (·.2)))) (pLcON X.prog X.w i Gp Tt Te (own.map (·.2))) := ppc_lcN2 i hc hN ok hg ht he hs hsub hN2 hv hd hcd
end
end Pl
namespace Pl
open PySem PySem.Spec PyProof.Rows L2
def row (c : Bool) (s : Int) (ns : List Int) (i : Int) : List Int := if c = true then reach s ns i else reachF s ns i
def Wn (w : D) (c : Bool) (s : Int) : Prop := w = windD c s ∨ w = .lst [.str (wordS c), .int s]
def enumFrom (h : Nat → Int → D) (k : Nat) : List Int → List D
  | [] => []
  | x :: r => h k x :: enumFrom h (k + 1) r
end Pl
namespace Pl
open PySem PySem.Spec PyProof.Rows L2
theorem mem_windsD {ws : List Wd} {d : D} (h : d ∈ windsD ws) : ∃ w ∈ ws, d = windD w.1 w.2 := by
  obtain ⟨w, hw, e⟩ := List.mem_map.mp h
  exact ⟨w, hw, e.symm⟩
end Pl
namespace Pl
open PySem PySem.Spec PyProof.Rows L2
theorem blW_keeps {l : List Int} {t : Int} {w : Wd} (hw : 0 ≤ w.2) (h : Gentle t l) : Gentle t (blW l w) := by
  rcases Int.le_total t w.2 with g | g
  · have : blW l w = l := (blown_idle (c := w.1) hw).mpr (h.mono g)
    rw [this]; exact h
  · exact (blown_gentle (c := w.1) hw l).mono g
theorem behindL_keeps {t : Int} : ∀ {ws : List Wd} {l : List Int}, (∀ w ∈ ws, 0 ≤ w.2) → Gentle t l → Gentle t (behindL l ws)
  | [], _, _, h => h
  | w :: ws, l, hw, h => behindL_keeps (ws := ws) (l := blW l w) (fun v hv => hw v (by simp [hv])) (blW_keeps (hw w (by simp)) h)
theorem behindL_gentle : ∀ {ws : List Wd} {l : List Int}, (∀ w ∈ ws, 0 ≤ w.2) → ∀ w ∈ ws, Gentle w.2 (behindL l ws)
  | [], _, _, _, h => by simp at h
  | v :: ws, l, hw, w, h => by
    have hw' : ∀ u ∈ ws, 0 ≤ u.2 := fun u hu => hw u (by simp [hu])
    rcases List.mem_cons.mp h with e | h
    · subst e
      exact behindL_keeps (ws := ws) (l := blW l w) hw' (blown_gentle (c := w.1) (hw w (by simp)) l)
    · exact behindL_gentle (ws := ws) (l := blW l v) hw' w h
theorem behindL_append (l : List Int) (a b : List Wd) : behindL l (a ++ b) = behindL (behindL l a) b := List.foldl_append
theorem cutD_to {xs : List D} {k : Nat} : cutD xs none (some (k : Int)) = xs.take k := by
  unfold cutD
  rw [HT.sIx_none, HT.sIx_nat, List.drop_zero, Nat.sub_zero]
  rcases Nat.le_total k xs.length with h | h
  · rw [Nat.min_eq_left h]
  · rw [Nat.min_eq_right h, List.take_of_length_le (Nat.le_refl _), List.take_of_length_le h]
theorem cutD_from {xs : List D} {k : Nat} : cutD xs (some (k : Int)) none = xs.drop k := by
  unfold cutD
  rw [HT.sIx_none, HT.sIx_nat]
  rcases Nat.le_total k xs.length with h | h
  · rw [Nat.min_eq_left h, List.take_of_length_le (by rw [List.length_drop]; exact Nat.le_refl _)]
  · rw [Nat.min_eq_right h, List.drop_eq_nil_of_le (Nat.le_refl _), List.drop_eq_nil_of_le h]; simp
theorem cutD_mid {xs : List D} {j k : Nat} (h : j ≤ k) : cutD xs (some (j : Int)) (some (k : Int)) = (xs.drop j).take (k - j) := by
  unfold cutD
  rw [HT.sIx_nat, HT.sIx_nat]
  rcases Nat.le_total k xs.length with g | g
  · rw [Nat.min_eq_left g, Nat.min_eq_left (by omega)]
  · rw [Nat.min_eq_right g]
    rcases Nat.le_total j xs.length with q | q
    · rw [Nat.min_eq_left q, List.take_of_length_le (by rw [List.length_drop]; exact Nat.le_refl _), List.take_of_length_le (by rw [List.length_drop]; omega)]
    · rw [Nat.min_eq_right q, List.drop_eq_nil_of_le (Nat.le_refl _), List.drop_eq_nil_of_le q]; simp
theorem windsD_take (ws : List Wd) (k : Nat) : (windsD ws).take k = windsD (ws.take k) := by unfold windsD; rw [List.map_take]
theorem windsD_drop (ws : List Wd) (k : Nat) : (windsD ws).drop k = windsD (ws.drop k) := by unfold windsD; rw [List.map_drop]
theorem windsD_append (a b : List Wd) : windsD a ++ windsD b = windsD (a ++ b) := by unfold windsD; rw [List.map_append]
theorem windsD_reverse (a : List Wd) : (windsD a).reverse = windsD a.reverse := by unfold windsD; rw [List.map_reverse]
theorem sh_word (c : Bool) : (D.str (wordS c)).sh := by cases c with | true => exact sh_cut | false => exact sh_fill
theorem canLay_wind (w : Wd) : PyData.canLay0 (toPy (windD w.1 w.2)) = true := by
  obtain ⟨c, s⟩ := w
  cases c with
  | true => show (PyData.canLay0 (.str "cut") && true) = true; decide +kernel
  | false => show (PyData.canLay0 (.str "fill") && true) = true; decide +kernel
theorem canLay_winds : ∀ ws : List Wd, PyData.canLayAll0 (toPys (windsD ws)) = true
  | [] => rfl
  | w :: ws => by
    show (PyData.canLay0 (toPy (windD w.1 w.2)) && PyData.canLayAll0 (toPys (windsD ws))) = true
    rw [canLay_winds ws, canLay_wind w]; rfl
theorem depth_wind (w : Wd) : PyData.depth (toPy (windD w.1 w.2)) = 1 := rfl
theorem depth_winds : ∀ ws : List Wd, PyData.depthAll (toPys (windsD ws)) ≤ 1
  | [] => by decide
  | w :: ws => by
    show max (PyData.depth (toPy (windD w.1 w.2))) (PyData.depthAll (toPys (windsD ws))) ≤ 1
    rw [depth_wind w]; have := depth_winds ws; omega
theorem sh_winds (ws : List Wd) : (D.lst (windsD ws)).sh := by
  show (PyData.canLayAll0 (toPys (windsD ws)) && decide (PyData.depthAll (toPys (windsD ws)) + 1 ≤ 64)) = true
  rw [canLay_winds]
  have := depth_winds ws
  simp; omega
theorem eqv_nil (ws : List Wd) : (D.lst (windsD ws)).eqv (.lst []) = decide (ws = []) := by
  cases ws with
  | nil => rfl
  | cons w ws => rfl
end Pl
namespace Pl
open PySem PySem.Spec PyProof.Rows L2
def Fits (c f : Int) (ws : List Wd) : Prop := ∀ w ∈ ws, 0 ≤ w.2 ∧ (w.1 = true → c ≤ w.2) ∧ (w.1 = false → f ≤ w.2)
theorem Fits.tail {c f : Int} {w : Wd} {ws : List Wd} (h : Fits c f (w :: ws)) : Fits c f ws := fun v hv => h v (by simp [hv])
end Pl
namespace Pl
open PySem PySem.Spec PyProof.Rows L2
abbrev N_almanac_of : List Str := [("cuts" : Str), ("fills" : Str), ("order" : Str), ("winds" : Str), ("cut" : Str), ("fill" : Str), ("sign" : Str)]
def T_almanac_of : TSp :=
  (pSeq (pSet 3 (pLstO pNil))
    (pSeq (pSet 4 (pVal (pC (.int 0))))
    (pSeq (pSet 5 (pVal (pC (.int 0))))
    (pSeq (pFor (jStr (pVar 2)) (hName 6)
    (pIfS (pTest (pOp fEq (pVar 6) (pC (.str "c"))))
    (pSeq (pAppend 3 (pTup (pCons (pC (.str "cut")) (pCons (pIxO 0 (pVar 4)) pNil))))
    (pAugI 4 (fun i j => i + j) (pC (.int 1))))
    (pSeq (pAppend 3 (pTup (pCons (pC (.str "fill")) (pCons (pIxO 1 (pVar 5)) pNil))))
    (pAugI 5 (fun i j => i + j) (pC (.int 1))))))
    (pRet (pMove 3))))))
abbrev N_are_contrary : List Str := [("one" : Str), ("other" : Str), ("of_cut" : Str), ("of_fill" : Str)]
def T_are_contrary : TSp :=
  (pSeq (pIfS (pTest (pOp fEq (pIxO 0 (pC (.int 0))) (pIxO 1 (pC (.int 0)))))
    (pRet (pVal (pC (.bl false))))
    pNext)
    (pSeq (pAsg (pIf (pTest (pOp fEq (pIxO 0 (pC (.int 0))) (pC (.str "cut")))) (pTup (pCons (pVar 0) (pCons (pVar 1) pNil))) (pTup (pCons (pVar 1) (pCons (pVar 0) pNil)))) (hTup 2 (hCons (hName 2) (hCons (hName 3) hNil))))
    (pRet (pVal (pAndV (pOp fLe (pIxO 3 (pC (.int 1))) (pIxO 2 (pC (.int 1)))) (pOp fLe (pIxO 2 (pC (.int 2))) (pIxO 3 (pC (.int 2)))))))))
abbrev N_first_clash : List Str := [("words" : Str), ("one" : Str), ("other" : Str)]
def T_first_clash (g_are_contrary : FA) : TSp :=
  (pSeq (pFor (jRng1 (pCons (pLenO 0) pNil)) (hName 1)
    (pFor (jRng2 (pCons (pOp fAdd (pVar 1) (pC (.int 1))) (pCons (pLenO 0) pNil))) (hName 2)
    (pIfS (pTest (pFrz (pCallA 2 g_are_contrary (pCons (pIxO 0 (pVar 1)) (pCons (pIxO 0 (pVar 2)) pNil)))))
    (pRet (pVal (pTup (pCons (pVar 1) (pCons (pVar 2) pNil)))))
    pNext)))
    (pRet (pVal (pC .non))))
abbrev N_refuse_clash : List Str := [("words" : Str), ("places" : Str)]
def T_refuse_clash (g_first_clash : FA) : TSp :=
  (pSeq (pSet 1 (pCallA 1 g_first_clash (pCons (pVar 0) pNil)))
    (pIfS (pTest (pOp fNotN (pVar 1) (pC .non)))
    pNever
    pNext))
abbrev N_least_ahead : List Str := [("words" : Str), ("fill" : Str), ("word" : Str), ("cut" : Str), ("at" : Str)]
def T_least_ahead : TSp :=
  (pRet (pVal (pDflt max (pLc (jSeq (pVar 0)) (hTup 3 (hCons (hName 2) (hCons (hName 3) (hCons (hName 4) hNil)))) (pAnd (pTest (pOp fEq (pVar 2) (pC (.str "cut")))) (pTest (pOp fLe (pVar 4) (pVar 1)))) (pOp fAdd (pVar 3) (pC (.int 1))) [2, 3, 4]) (pC (.int 0)))))
abbrev N_most_ahead : List Str := [("cuts" : Str), ("words" : Str), ("fill" : Str), ("word" : Str), ("cut" : Str), ("at" : Str)]
def T_most_ahead : TSp :=
  (pRet (pVal (pDflt min (pLc (jSeq (pVar 1)) (hTup 3 (hCons (hName 3) (hCons (hName 4) (hCons (hName 5) hNil)))) (pAnd (pTest (pOp fEq (pVar 3) (pC (.str "fill")))) (pTest (pOp fGe (pVar 5) (pVar 2)))) (pVar 4) [3, 4, 5]) (pLenO 0))))
abbrev N_bounds : List Str := [("cuts" : Str), ("fills" : Str), ("words" : Str), ("fill" : Str)]
def T_bounds (g_refuse_clash : FA) (g_least_ahead : FA) (g_most_ahead : FA) : TSp :=
  (pSeq (pDrop (pFrz (pCallA 1 g_refuse_clash (pCons (pVar 2) pNil))))
    (pRet (pLcO (jRng1 (pCons (pLenO 1) pNil)) (hName 3) pYes (pTup (pCons (pFrz (pCallA 2 g_least_ahead (pCons (pVar 2) (pCons (pVar 3) pNil)))) (pCons (pFrz (pCallA 3 g_most_ahead (pCons (pVar 0) (pCons (pVar 2) (pCons (pVar 3) pNil))))) pNil))) [3])))
abbrev N_ways_on : List Str := [("cuts" : Str), ("fills" : Str), ("words" : Str), ("rows" : Str), ("least" : Str), ("most" : Str)]
def T_ways_on (g_bounds : FA) (g_ways_ahead : FA) : TSp :=
  (pSeq (pSet 3 (pLstO (pCons (pOp fAdd (pOp fRep (pLst (pCons (pC (.int 1)) pNil)) (pOp fAdd (pLenO 0) (pC (.int 1)))) (pLst (pCons (pC (.int 0)) pNil))) pNil)))
    (pSeq (pFor (jSeq (pUn fRev (pFrz (pCallA 3 g_bounds (pCons (pVar 0) (pCons (pVar 1) (pCons (pVar 2) pNil))))))) (hTup 2 (hCons (hName 4) (hCons (hName 5) hNil)))
    (pAppend 3 (pFrz (pCallA 3 g_ways_ahead (pCons (pIxO 3 (pUn fNeg (pC (.int 1)))) (pCons (pVar 4) (pCons (pVar 5) pNil)))))))
    (pRet (pVal (pUn fRev (pVar 3))))))
abbrev N_ways_ahead : List Str := [("later" : Str), ("least" : Str), ("most" : Str), ("row" : Str), ("many" : Str), ("cut" : Str)]
def T_ways_ahead : TSp :=
  (pSeq (pSet 3 (pLstO pNil))
    (pSeq (pSet 4 (pVal (pC (.int 0))))
    (pSeq (pFor (jRev (pLenO 0)) (hName 5)
    (pSeq (pIfS (pTest (pChain fLe fLe (pVar 1) (pVar 5) (pVar 2)))
    (pAugI 4 (fun i j => i + j) (pIxO 0 (pVar 5)))
    pNext)
    (pAppend 3 (pVar 4))))
    (pRet (pVal (pUn fRev (pVar 3)))))))
abbrev N__law_books : List Str := [("_law_box_here" : Str), ("_law_size" : Str), ("_law_cuts" : Str), ("_law_fills" : Str), ("_law_way" : Str), ("_law_slope_here" : Str), ("_law_turn" : Str), ("_law_book" : Str)]
def T__law_books (g__law_take : FB) (g__law_slope : FB) : TSp :=
  (pSeq (pParC3 2 3 4 (pConsC (pLstO pNil) (pConsC (pLstO pNil) (pConsC (pCallB 0 2 g__law_take (pCons (pC (.int 4)) pNil)) pNilC))))
    (pSeq (pIfS (pTest (pOp fEq (pVar 4) (pC (.int 0))))
    (pSeq (pSet 5 (pVal (pOp fAdd (pC (.int 40)) (pFrz (pCallB 0 2 g__law_take (pCons (pC (.int 60)) pNil))))))
    (pSeq (pFor (jRng1 (pCons (pFrz (pCallB 0 2 g__law_take (pCons (pOp fAdd (pOp fMulI (pC (.int 2)) (pVar 1)) (pC (.int 1))) pNil))) pNil)) (hName 6)
    (pSeq (pSet 7 (pVal (pOp fIx (pLst (pCons (pAdr 2) (pCons (pAdr 3) pNil))) (pOp fMod (pOp fAdd (pVar 6) (pOp fMulI (pFrz (pCallB 0 2 g__law_take (pCons (pC (.int 2)) pNil))) (pFrz (pCallB 0 2 g__law_take (pCons (pC (.int 2)) pNil))))) (pC (.int 2))))))
    (pSeq (pAppendA 7 [2, 3] (pVar 5))
    (pSet 5 (pVal (pCB fMax2 (pCons (pC (.int 0)) (pCons (pOp fSub (pOp fSub (pVar 5) (pC (.int 1))) (pFrz (pCallB 0 2 g__law_take (pCons (pC (.int 9)) pNil)))) pNil))))))))
    (pRet (pVal (pTup (pCons (pSl (pVar 2) pNoPart (pPart (pVar 1))) (pCons (pSl (pVar 3) pNoPart (pPart (pVar 1))) pNil)))))))
    pNext)
    (pSeq (pFor (jSeq (pTup (pCons (pAdr 2) (pCons (pAdr 3) pNil)))) (hName 7)
    (pFor (jRng1 (pCons (pFrz (pCallB 0 2 g__law_take (pCons (pOp fAdd (pVar 1) (pC (.int 1))) pNil))) pNil)) (hName 6)
    (pAppendA 7 [2, 3] (pIf (pTest (pOp fLt (pVar 4) (pC (.int 3)))) (pFrz (pCallB 0 1 g__law_slope pNil)) (pFrz (pCallB 0 2 g__law_take (pCons (pC (.int 3)) pNil)))))))
    (pRet (pVal (pTup (pCons (pVar 2) (pCons (pVar 3) pNil))))))))
abbrev N__law_almanac : List Str := [("_law_cuts" : Str), ("_law_fills" : Str), ("_law_order_here" : Str), ("_law_left" : Str), ("_law_right_here" : Str), ("_law_told_here" : Str), ("_law_letter" : Str)]
def T__law_almanac : TSp :=
  (pSeq (pParC3 3 4 5 (pConsC (pLstCO (pCons (pVar 0) pNil)) (pConsC (pLstCO (pCons (pVar 1) pNil)) (pConsC (pLstO pNil) pNilC))))
    (pSeq (pFor (jStr (pVar 2)) (hName 6)
    (pAppend 5 (pIf (pTest (pOp fEq (pVar 6) (pC (.str "c")))) (pTup (pCons (pC (.str "cut")) (pCons (pPop 3 (pC (.int 0))) pNil))) (pTup (pCons (pC (.str "fill")) (pCons (pPop 4 (pC (.int 0))) pNil))))))
    (pRet (pMove 5))))
end Pl
namespace Pl
open PySem PySem.Spec PyProof.Rows L2
abbrev N_is_number : List Str := [("thing" : Str)]
def T_is_number : TSp :=
  (pRet (pVal (pAndV (pIsi D.isInt (pVar 0)) (pNotV (pIsi D.isBl (pVar 0))))))
abbrev N_gentler_ones : List Str := [("almanac" : Str), ("kept" : Str), ("word" : Str), ("slope" : Str)]
def T_gentler_ones : TSp :=
  (pSeq (pSet 1 (pLstO pNil))
    (pSeq (pFor (jSeq (pVar 0)) (hTup 2 (hCons (hName 2) (hCons (hName 3) hNil)))
    (pIfS (pOr (pTest (pPeek (pOp fEq (pVar 1) (pLst pNil)))) (pTest (pOp fLt (pVar 3) (pOp fIx (pIxO 1 (pUn fNeg (pC (.int 1)))) (pC (.int 1))))))
    (pAppend 1 (pTup (pCons (pVar 2) (pCons (pVar 3) pNil))))
    pNext))
    (pRet (pMove 1))))
abbrev N_core : List Str := [("almanac" : Str), ("kept" : Str), ("wind" : Str)]
def T_core (g_gentler_ones : FA) : TSp :=
  (pSeq (pSet 1 (pLstO pNil))
    (pSeq (pFor (jSeq (pFrz (pCallA 1 g_gentler_ones (pCons (pVar 0) pNil)))) (hName 2)
    (pSeq (pIfS (pAnd (pTest (pPeek (pOp fNe (pVar 1) (pLst pNil)))) (pTest (pOp fEq (pOp fIx (pIxO 1 (pUn fNeg (pC (.int 1)))) (pC (.int 0))) (pIxO 2 (pC (.int 0))))))
    (pDrop (pPop0 1))
    pNext)
    (pAppend 1 (pVar 2))))
    (pRet (pMove 1))))
abbrev N_alike : List Str := [("one" : Str), ("other" : Str)]
def T_alike (g_core : FA) : TSp :=
  (pRet (pVal (pOp fEq (pFrz (pCallA 1 g_core (pCons (pVar 0) pNil))) (pFrz (pCallA 1 g_core (pCons (pVar 1) pNil))))))
abbrev N_first_to_shift : List Str := [("almanac" : Str), ("slope" : Str), ("word" : Str), ("other" : Str)]
def T_first_to_shift : TSp :=
  (pSeq (pFor (jSeq (pVar 0)) (hTup 2 (hCons (hName 2) (hCons (hName 3) hNil)))
    (pIfS (pTest (pOp fLe (pVar 3) (pVar 1)))
    (pRet (pMove 2))
    pNext))
    (pRet (pVal (pC .non))))
abbrev N__law_near : List Str := [("_law_box_here" : Str), ("_law_winds_here" : Str), ("_law_told" : Str), ("_law_way" : Str), ("_law_at" : Str), ("_law_word" : Str), ("_law_slope_here" : Str)]
def T__law_near (g__law_take : FB) (g__law_slope : FB) : TSp :=
  (pSeq (pPar 2 3 (pCons (pCB fLst (pCons (pVar 1) pNil)) (pCons (pFrz (pCallB 0 2 g__law_take (pCons (pC (.int 7)) pNil))) pNil)))
    (pSeq (pSet 4 (pCallB 0 2 g__law_take (pCons (pOp fAdd (pLenO 2) (pC (.int 1))) pNil)))
    (pSeq (pIfS (pOr (pTest (pOp fEq (pVar 3) (pC (.int 0)))) (pTest (pOp fEq (pVar 4) (pLenO 2))))
    (pRet (pVal (pOp fAdd (pOp fAdd (pSl (pVar 2) pNoPart (pPart (pVar 4))) (pLst (pCons (pTup (pCons (pOp fIx (pLst (pCons (pC (.str "cut")) (pCons (pC (.str "fill")) pNil))) (pFrz (pCallB 0 2 g__law_take (pCons (pC (.int 2)) pNil)))) (pCons (pFrz (pCallB 0 1 g__law_slope pNil)) pNil))) pNil))) (pSl (pVar 2) (pPart (pVar 4)) pNoPart))))
    pNext)
    (pSeq (pAsg (pIxO 2 (pVar 4)) (hTup 2 (hCons (hName 5) (hCons (hName 6) hNil))))
    (pSeq (pIfS (pTest (pOp fEq (pVar 3) (pC (.int 1))))
    (pRet (pVal (pOp fAdd (pSl (pVar 2) pNoPart (pPart (pVar 4))) (pSl (pVar 2) (pPart (pOp fAdd (pVar 4) (pC (.int 1)))) pNoPart))))
    pNext)
    (pSeq (pIfS (pTest (pOp fEq (pVar 3) (pC (.int 2))))
    (pRet (pVal (pOp fAdd (pOp fAdd (pSl (pVar 2) pNoPart (pPart (pVar 4))) (pLst (pCons (pIxO 2 (pVar 4)) pNil))) (pSl (pVar 2) (pPart (pVar 4)) pNoPart))))
    pNext)
    (pSeq (pIfS (pTest (pOp fEq (pVar 3) (pC (.int 3))))
    (pRet (pVal (pOp fAdd (pOp fAdd (pSl (pVar 2) pNoPart (pPart (pVar 4))) (pUn fRev (pSl (pVar 2) (pPart (pVar 4)) (pPart (pOp fAdd (pVar 4) (pC (.int 2))))))) (pSl (pVar 2) (pPart (pOp fAdd (pVar 4) (pC (.int 2)))) pNoPart))))
    pNext)
    (pSeq (pIfS (pTest (pOp fEq (pVar 3) (pC (.int 4))))
    (pSet 5 (pVal (pOp fIx (pLst (pCons (pC (.str "fill")) (pCons (pC (.str "cut")) pNil))) (pCB fInt1 (pCons (pOp fEq (pVar 5) (pC (.str "fill"))) pNil)))))
    pNext)
    (pRet (pVal (pOp fAdd (pOp fAdd (pSl (pVar 2) pNoPart (pPart (pVar 4))) (pLst (pCons (pTup (pCons (pVar 5) (pCons (pCB fMax2 (pCons (pC (.int 0)) (pCons (pOp fAdd (pVar 6) (pOp fIx (pLst (pCons (pC (.int 0)) (pCons (pC (.int 0)) (pCons (pC (.int 0)) (pCons (pC (.int 0)) (pCons (pC (.int 0)) (pCons (pC (.int 1)) (pCons (pUn fNeg (pC (.int 1))) pNil)))))))) (pVar 3))) pNil))) pNil))) pNil))) (pSl (pVar 2) (pPart (pOp fAdd (pVar 4) (pC (.int 1)))) pNoPart))))))))))))
abbrev N__law_core : List Str := [("_law_winds" : Str), ("_law_left" : Str), ("_law_least" : Str), ("_law_word" : Str), ("_law_slope_here" : Str), ("_law_k" : Str), ("_law_wind" : Str)]
def T__law_core : TSp :=
  (pSeq (pParC 1 2 (pConsC (pLstO pNil) (pConsC (pVal (pC .non)) pNilC)))
    (pSeq (pFor (jSeq (pVar 0)) (hTup 2 (hCons (hName 3) (hCons (hName 4) hNil)))
    (pIfS (pOr (pTest (pOp fIsN (pVar 2) (pC .non))) (pTest (pOp fLt (pVar 4) (pVar 2))))
    (pSeq (pAppend 1 (pTup (pCons (pVar 3) (pCons (pVar 4) pNil))))
    (pSet 2 (pVal (pVar 4))))
    pNext))
    (pRet (pLcO (jE (pCons (pVar 1) pNil)) (hTup 2 (hCons (hName 5) (hCons (hName 6) hNil))) (pOr (pTest (pOp fEq (pOp fAdd (pVar 5) (pC (.int 1))) (pLenO 1))) (pTest (pOp fNe (pOp fIx (pIxO 1 (pOp fAdd (pVar 5) (pC (.int 1)))) (pC (.int 0))) (pIxO 6 (pC (.int 0)))))) (pVar 6) [5, 6]))))
abbrev N__law_lists : List Str := [("_law_thing" : Str), ("_law_one" : Str)]
def T__law_lists (g__law_lists : FA) : TSp :=
  (pRet (pVal (pIf (pTest (pIsi2 D.isLst D.isTup (pVar 0))) (pLc (jSeq (pVar 0)) (hName 1) pYes (pFrz (pCallA 1 g__law_lists (pCons (pVar 1) pNil))) [1]) (pVar 0))))
abbrev N_own_copy : List Str := [("thing" : Str), ("part" : Str)]
def T_own_copy (g_own_copy : FA) : TSp :=
  (pSeq (pIfS (pTest (pIsi D.isLst (pVar 0)))
    (pRet (pLcO (jSeq (pVar 0)) (hName 1) pYes (pFrz (pCallA 1 g_own_copy (pCons (pVar 1) pNil))) [1]))
    pNext)
    (pSeq (pIfS (pTest (pIsi D.isTup (pVar 0)))
    (pRet (pVal (pCB fTup (pCons (pLc (jSeq (pVar 0)) (hName 1) pYes (pFrz (pCallA 1 g_own_copy (pCons (pVar 1) pNil))) [1]) pNil))))
    pNext)
    (pRet (pMove 0))))
abbrev N_order_at : List Str := [("cuts" : Str), ("fills" : Str), ("words" : Str), ("number" : Str), ("ways" : Str), ("signs" : Str), ("cut" : Str), ("fill" : Str), ("left" : Str), ("by_cut" : Str)]
def T_order_at (g_ways_on : FA) : TSp :=
  (pSeq (pSet 4 (pCallA 3 g_ways_on (pCons (pVar 0) (pCons (pVar 1) (pCons (pVar 2) pNil)))))
    (pSeq (pIfS (pNot (pTest (pChain fLe fLt (pC (.int 0)) (pVar 3) (pOp fIx (pIxO 4 (pC (.int 0))) (pC (.int 0))))))
    pNever
    pNext)
    (pSeq (pSet 5 (pLstO pNil))
    (pSeq (pSet 6 (pVal (pC (.int 0))))
    (pSeq (pSet 7 (pVal (pC (.int 0))))
    (pSeq (pSet 8 (pVal (pVar 3)))
    (pSeq (pWhile (pOr (pTest (pOp fLt (pVar 6) (pLenO 0))) (pTest (pOp fLt (pVar 7) (pLenO 1))))
    (pSeq (pSet 9 (pVal (pOp fIx (pIxO 4 (pVar 7)) (pOp fAdd (pVar 6) (pC (.int 1))))))
    (pIfS (pTest (pOp fLt (pVar 8) (pVar 9)))
    (pSeq (pAppend 5 (pC (.str "c")))
    (pAugI 6 (fun i j => i + j) (pC (.int 1))))
    (pSeq (pAppend 5 (pC (.str "f")))
    (pSeq (pAugI 7 (fun i j => i + j) (pC (.int 1)))
    (pAugI 8 (fun i j => i - j) (pVar 9)))))))
    (pRet (pVal (pJoin (pC (.str "")) (pVar 5)))))))))))
abbrev N__law_orders : List Str := [("_law_cuts" : Str), ("_law_fills" : Str), ("_law_text" : Str)]
def T__law_orders (g__law_orders : FA) : TSp :=
  (pSeq (pIfS (pOr (pTest (pOp fEq (pVar 0) (pC (.int 0)))) (pTest (pOp fEq (pVar 1) (pC (.int 0)))))
    (pRet (pLstO (pCons (pOp fAdd (pOp fMulS (pC (.str "c")) (pVar 0)) (pOp fMulS (pC (.str "f")) (pVar 1))) pNil)))
    pNext)
    (pRet (pCatO (pLc (jSeq (pFrz (pCallA 2 g__law_orders (pCons (pOp fSub (pVar 0) (pC (.int 1))) (pCons (pVar 1) pNil))))) (hName 2) pYes (pOp fAdd (pC (.str "c")) (pVar 2)) [2]) (pLc (jSeq (pFrz (pCallA 2 g__law_orders (pCons (pVar 0) (pCons (pOp fSub (pVar 1) (pC (.int 1))) pNil))))) (hName 2) pYes (pOp fAdd (pC (.str "f")) (pVar 2)) [2]))))
end Pl
namespace Pl
open PySem PySem.Spec PyProof.Rows L2
abbrev N_first_gentle : List Str := [("slopes" : Str), ("slope" : Str), ("number" : Str), ("other" : Str)]
def T_first_gentle : TSp :=
  (pSeq (pFor (jE (pCons (pVar 0) pNil)) (hTup 2 (hCons (hName 2) (hCons (hName 3) hNil)))
    (pIfS (pTest (pOp fLe (pVar 3) (pVar 1)))
    (pRet (pMove 2))
    pNext))
    (pRet (pVal (pC .non))))
abbrev N_meetings : List Str := [("cuts" : Str), ("fills" : Str), ("pairs" : Str), ("slope" : Str), ("pair" : Str)]
def T_meetings (g_first_gentle : FA) : TSp :=
  (pSeq (pSet 2 (pLstO pNil))
    (pSeq (pFor (jSeq (pSortR (pLst (pStar (pVar 0) (pStar (pVar 1) pNil))))) (hName 3)
    (pSeq (pSet 4 (pVal (pTup (pCons (pFrz (pCallA 2 g_first_gentle (pCons (pVar 0) (pCons (pVar 3) pNil)))) (pCons (pFrz (pCallA 2 g_first_gentle (pCons (pVar 1) (pCons (pVar 3) pNil)))) pNil)))))
    (pIfS (pAnd (pTest (pOp fNotInT (pC .non) (pVar 4))) (pTest (pPeek (pOp fNotIn (pVar 4) (pVar 2)))))
    (pAppend 2 (pVar 4))
    pNext)))
    (pRet (pMove 2))))
abbrev N_both_words : List Str := [("pair" : Str), ("cut" : Str), ("fill" : Str)]
def T_both_words : TSp :=
  (pSeq (pAsg (pVar 0) (hTup 2 (hCons (hName 1) (hCons (hName 2) hNil))))
    (pRet (pVal (pTup (pCons (pTup (pCons (pC (.str "cut")) (pCons (pVar 1) (pCons (pVar 2) pNil)))) (pCons (pTup (pCons (pC (.str "fill")) (pCons (pVar 1) (pCons (pVar 2) pNil)))) pNil))))))
abbrev N_words_for : List Str := [("cuts" : Str), ("fills" : Str), ("winds" : Str), ("words" : Str), ("pair" : Str), ("by_cut" : Str), ("by_fill" : Str), ("slope" : Str)]
def T_words_for (g_first_to_shift : FA) (g_meetings : FA) (g_both_words : FA) : TSp :=
  (pSeq (pSet 3 (pLstO pNil))
    (pSeq (pFor (jSeq (pFrz (pCallA 2 g_meetings (pCons (pVar 0) (pCons (pVar 1) pNil))))) (hName 4)
    (pSeq (pAsg (pFrz (pCallA 1 g_both_words (pCons (pVar 4) pNil))) (hTup 2 (hCons (hName 5) (hCons (hName 6) hNil))))
    (pSeq (pSet 7 (pVal (pCB fMax2 (pCons (pIxO 0 (pIxO 4 (pC (.int 0)))) (pCons (pIxO 1 (pIxO 4 (pC (.int 1)))) pNil)))))
    (pAppend 3 (pIf (pTest (pOp fEq (pFrz (pCallA 2 g_first_to_shift (pCons (pVar 2) (pCons (pVar 7) pNil)))) (pC (.str "cut")))) (pVar 5) (pVar 6))))))
    (pRet (pMove 3))))
abbrev N_order_for : List Str := [("cuts" : Str), ("fills" : Str), ("core" : Str), ("wind" : Str), ("winds" : Str), ("words" : Str), ("order" : Str)]
def T_order_for (g_is_core : FA) (g_alike : FA) (g_almanac_of : FA) (g_first_clash : FA) (g_order_at : FA) (g_words_for : FA) : TSp :=
  (pSeq (pSet 4 (pVal (pLc (jSeq (pVar 2)) (hName 3) pYes (pCB fTup (pCons (pVar 3) pNil)) [3])))
    (pSeq (pSet 5 (pCallA 3 g_words_for (pCons (pVar 0) (pCons (pVar 1) (pCons (pVar 4) pNil)))))
    (pSeq (pIfS (pOr (pNot (pTest (pFrz (pCallA 1 g_is_core (pCons (pVar 4) pNil))))) (pTest (pOp fNotN (pFrz (pCallA 1 g_first_clash (pCons (pVar 5) pNil))) (pC .non))))
    pNever
    pNext)
    (pSeq (pSet 6 (pCallA 4 g_order_at (pCons (pVar 0) (pCons (pVar 1) (pCons (pVar 5) (pCons (pC (.int 0)) pNil))))))
    (pSeq (pIfS (pNot (pTest (pFrz (pCallA 2 g_alike (pCons (pFrz (pCallA 3 g_almanac_of (pCons (pVar 0) (pCons (pVar 1) (pCons (pVar 6) pNil))))) (pCons (pVar 4) pNil))))))
    pNever
    pNext)
    (pRet (pMove 6)))))))
abbrev N_is_wind : List Str := [("thing" : Str)]
def T_is_wind (g_is_number : FA) : TSp :=
  (pSeq (pIfS (pOr (pNot (pTest (pIsi D.isTup (pVar 0)))) (pTest (pOp fNe (pLenO 0) (pC (.int 2)))))
    (pRet (pVal (pC (.bl false))))
    pNext)
    (pRet (pVal (pAndV (pOp fInT (pIxO 0 (pC (.int 0))) (pTup (pCons (pC (.str "cut")) (pCons (pC (.str "fill")) pNil)))) (pAndV (pFrz (pCallA 1 g_is_number (pCons (pIxO 0 (pC (.int 1))) pNil))) (pOp fGe (pIxO 0 (pC (.int 1))) (pC (.int 0))))))))
abbrev N_is_almanac : List Str := [("thing" : Str), ("wind" : Str)]
def T_is_almanac (g_is_wind : FA) : TSp :=
  (pRet (pVal (pAndV (pIsi D.isLst (pVar 0)) (pCB fAll (pCons (pLc (jSeq (pVar 0)) (hName 1) pYes (pFrz (pCallA 1 g_is_wind (pCons (pVar 1) pNil))) [1]) pNil)))))
abbrev N_is_core : List Str := [("thing" : Str)]
def T_is_core (g_is_almanac : FA) (g_core : FA) : TSp :=
  (pRet (pVal (pAndV (pFrz (pCallA 1 g_is_almanac (pCons (pVar 0) pNil))) (pOp fEq (pFrz (pCallA 1 g_core (pCons (pVar 0) pNil))) (pVar 0)))))
end Pl
namespace Pl
open PySem PySem.Spec PyProof.Rows L2
def All2 (Pd : D → Int → Prop) : List D → List Int → Prop
  | [], [] => True
  | d :: ds, y :: ys => Pd d y ∧ All2 Pd ds ys
  | _, _ => False
theorem All2.length {Pd : D → Int → Prop} : ∀ {ds : List D} {ys : List Int}, All2 Pd ds ys → ys.length = ds.length
  | [], [], _ => rfl
  | _ :: ds, _ :: ys, h => by simp [All2.length h.2]
  | [], _ :: _, h => h.elim
  | _ :: _, [], h => h.elim
theorem All2.mem {Pd : D → Int → Prop} : ∀ {ds : List D} {ys : List Int} {y : Int}, All2 Pd ds ys → y ∈ ys → ∃ d ∈ ds, Pd d y
  | [], [], _, _, h => by simp at h
  | d :: ds, z :: ys, y, h, hy => by
    rcases List.mem_cons.mp hy with e | hy
    · subst e; exact ⟨d, by simp, h.1⟩
    · obtain ⟨e, he, p⟩ := All2.mem h.2 hy
      exact ⟨e, by simp [he], p⟩
  | [], _ :: _, _, h, _ => h.elim
  | _ :: _, [], _, h, _ => h.elim
theorem Bx.le {n m : Nat} {xs : List D} (h : Bx n xs) (hm : n ≤ m) : Bx m xs := h.mono hm
end Pl
namespace Pl
def cT : List Bool → Nat
  | [] => 0
  | true :: o => cT o + 1
  | false :: o => cT o
def cF : List Bool → Nat
  | [] => 0
  | true :: o => cF o
  | false :: o => cF o + 1
theorem cT_append : ∀ (a b : List Bool), cT (a ++ b) = cT a + cT b
  | [], b => by simp [cT]
  | true :: a, b => by show cT (a ++ b) + 1 = cT a + 1 + cT b; rw [cT_append a b]; omega
  | false :: a, b => cT_append a b
theorem cF_append : ∀ (a b : List Bool), cF (a ++ b) = cF a + cF b
  | [], b => by simp [cF]
  | false :: a, b => by show cF (a ++ b) + 1 = cF a + 1 + cF b; rw [cF_append a b]; omega
  | true :: a, b => cF_append a b
theorem cT_cF : ∀ o : List Bool, cT o + cF o = o.length
  | [] => rfl
  | true :: o => by have := cT_cF o; show cT o + 1 + cF o = o.length + 1; omega
  | false :: o => by have := cT_cF o; show cT o + (cF o + 1) = o.length + 1; omega
def almL (cuts fills : List Int) (i j : Nat) : List Bool → List Wd
  | [] => []
  | true :: o => (true, cuts.getD i 0) :: almL cuts fills (i + 1) j o
  | false :: o => (false, fills.getD j 0) :: almL cuts fills i (j + 1) o
theorem almL_len (cuts fills : List Int) : ∀ (o : List Bool) (i j : Nat), (almL cuts fills i j o).length = o.length
  | [], _, _ => rfl
  | true :: o, i, j => by simp [almL, almL_len cuts fills o]
  | false :: o, i, j => by simp [almL, almL_len cuts fills o]
theorem almL_snocT (cuts fills : List Int) : ∀ (o : List Bool) (i j : Nat), almL cuts fills i j (o ++ [true]) = almL cuts fills i j o ++ [(true, cuts.getD (i + cT o) 0)]
  | [], i, j => by simp [almL, cT]
  | true :: o, i, j => by
    show (true, cuts.getD i 0) :: almL cuts fills (i + 1) j (o ++ [true]) = (true, cuts.getD i 0) :: (almL cuts fills (i + 1) j o ++ [(true, cuts.getD (i + (cT o + 1)) 0)])
    rw [almL_snocT cuts fills o, show i + 1 + cT o = i + (cT o + 1) by omega]
  | false :: o, i, j => by
    show (false, fills.getD j 0) :: almL cuts fills i (j + 1) (o ++ [true]) = (false, fills.getD j 0) :: (almL cuts fills i (j + 1) o ++ [(true, cuts.getD (i + cT o) 0)])
    rw [almL_snocT cuts fills o]
theorem almL_snocF (cuts fills : List Int) : ∀ (o : List Bool) (i j : Nat), almL cuts fills i j (o ++ [false]) = almL cuts fills i j o ++ [(false, fills.getD (j + cF o) 0)]
  | [], i, j => by simp [almL, cF]
  | true :: o, i, j => by
    show (true, cuts.getD i 0) :: almL cuts fills (i + 1) j (o ++ [false]) = (true, cuts.getD i 0) :: (almL cuts fills (i + 1) j o ++ [(false, fills.getD (j + cF o) 0)])
    rw [almL_snocF cuts fills o]
  | false :: o, i, j => by
    show (false, fills.getD j 0) :: almL cuts fills i (j + 1) (o ++ [false]) = (false, fills.getD j 0) :: (almL cuts fills i (j + 1) o ++ [(false, fills.getD (j + (cF o + 1)) 0)])
    rw [almL_snocF cuts fills o, show j + 1 + cF o = j + (cF o + 1) by omega]
theorem getD_nonneg {l : List Int} (h : ∀ x ∈ l, 0 ≤ x) (i : Nat) : 0 ≤ l.getD i 0 := by
  rw [List.getD_eq_getElem?_getD]
  cases e : l[i]? with
  | none => simp
  | some x => simp; exact h x (List.mem_of_getElem? e)
theorem almL_nonneg {cuts fills : List Int} (hc : ∀ x ∈ cuts, 0 ≤ x) (hf : ∀ x ∈ fills, 0 ≤ x) : ∀ (o : List Bool) (i j : Nat), ∀ w ∈ almL cuts fills i j o, 0 ≤ w.2
  | [], _, _, w, h => by simp [almL] at h
  | true :: o, i, j, w, h => by
    rcases List.mem_cons.mp h with e | h
    · rw [e]; exact getD_nonneg hc i
    · exact almL_nonneg hc hf o _ _ w h
  | false :: o, i, j, w, h => by
    rcases List.mem_cons.mp h with e | h
    · rw [e]; exact getD_nonneg hf j
    · exact almL_nonneg hc hf o _ _ w h
theorem almL_memT (cuts fills : List Int) : ∀ (o : List Bool) (i j k : Nat), k < cT o → (true, cuts.getD (i + k) 0) ∈ almL cuts fills i j o
  | [], _, _, k, h => by simp [cT] at h
  | true :: o, i, j, 0, _ => by simp [almL]
  | true :: o, i, j, k + 1, h => by
    have := almL_memT cuts fills o (i + 1) j k (by have : k + 1 < cT o + 1 := h; omega)
    rw [show i + 1 + k = i + (k + 1) by omega] at this
    exact List.mem_cons_of_mem _ this
  | false :: o, i, j, k, h => List.mem_cons_of_mem _ (almL_memT cuts fills o i (j + 1) k h)
theorem almL_memF (cuts fills : List Int) : ∀ (o : List Bool) (i j k : Nat), k < cF o → (false, fills.getD (j + k) 0) ∈ almL cuts fills i j o
  | [], _, _, k, h => by simp [cF] at h
  | false :: o, i, j, 0, _ => by simp [almL]
  | false :: o, i, j, k + 1, h => by
    have := almL_memF cuts fills o i (j + 1) k (by have : k + 1 < cF o + 1 := h; omega)
    rw [show j + 1 + k = j + (k + 1) by omega] at this
    exact List.mem_cons_of_mem _ this
  | true :: o, i, j, k, h => List.mem_cons_of_mem _ (almL_memF cuts fills o (i + 1) j k h)
def aheadL (k : Nat) : List Bool → List Nat
  | [] => []
  | true :: o => aheadL (k + 1) o
  | false :: o => k :: aheadL k o
theorem aheadL_len : ∀ (o : List Bool) (k : Nat), (aheadL k o).length = cF o
  | [], _ => rfl
  | true :: o, k => aheadL_len o (k + 1)
  | false :: o, k => by show (aheadL k o).length + 1 = cF o + 1; rw [aheadL_len o k]
theorem aheadL_snocT : ∀ (o : List Bool) (k : Nat), aheadL k (o ++ [true]) = aheadL k o
  | [], _ => rfl
  | true :: o, k => aheadL_snocT o (k + 1)
  | false :: o, k => by show k :: aheadL k (o ++ [true]) = k :: aheadL k o; rw [aheadL_snocT o k]
theorem aheadL_snocF : ∀ (o : List Bool) (k : Nat), aheadL k (o ++ [false]) = aheadL k o ++ [k + cT o]
  | [], _ => by simp [aheadL, cT]
  | true :: o, k => by show aheadL (k + 1) (o ++ [false]) = aheadL (k + 1) o ++ [k + (cT o + 1)]; rw [aheadL_snocF o (k + 1), show k + 1 + cT o = k + (cT o + 1) by omega]
  | false :: o, k => by show k :: aheadL k (o ++ [false]) = k :: (aheadL k o ++ [k + cT o]); rw [aheadL_snocF o k]
theorem aheadL_le : ∀ (o : List Bool) (k : Nat), ∀ x ∈ aheadL k o, k ≤ x ∧ x ≤ k + cT o
  | [], _, x, h => by simp [aheadL] at h
  | true :: o, k, x, h => by
    have := aheadL_le o (k + 1) x h
    show k ≤ x ∧ x ≤ k + (cT o + 1); omega
  | false :: o, k, x, h => by
    rcases List.mem_cons.mp h with e | h
    · subst e; show x ≤ x ∧ x ≤ x + cT o; omega
    · exact aheadL_le o k x h
structure Dom (A B : List Bool) : Prop where
  t : cT B ≤ cT A
  f : cF A ≤ cF B
  le : ∀ (j x y : Nat), (aheadL 0 A)[j]? = some x → (aheadL 0 B)[j]? = some y → y ≤ x
theorem behindL_snoc (l : List Int) (ws : List Wd) (w : Wd) : behindL l (ws ++ [w]) = blW (behindL l ws) w := behindL_append l ws [w]
theorem get_snoc_lt {l : List Nat} {x y : Nat} {j : Nat} (h : l[j]? = some y) : (l ++ [x])[j]? = some y := by
  have hj : j < l.length := by
    rcases Nat.lt_or_ge j l.length with q | q
    · exact q
    · rw [List.getElem?_eq_none q] at h; cases h
  rw [List.getElem?_append_left hj]; exact h
theorem dom_le {cuts fills : List Int} (hc : ∀ x ∈ cuts, 0 ≤ x) (hf : ∀ x ∈ fills, 0 ≤ x) (l : List Int) : ∀ (n : Nat) (A B : List Bool), A.length + B.length ≤ n → Dom A B → Lq (behindL l (almL cuts fills 0 0 A)) (behindL l (almL cuts fills 0 0 B)) := by
  intro n
  induction n with
  | zero =>
    intro A B hn D
    have hA : A = [] := List.length_eq_zero_iff.mp (by omega)
    have hB : B = [] := List.length_eq_zero_iff.mp (by omega)
    subst hA hB
    exact Lq.refl _
  | succ n ih =>
    intro A B hn D
    rcases List.eq_nil_or_concat B with rfl | ⟨B', b, rfl⟩
    · rcases List.eq_nil_or_concat A with rfl | ⟨A', a, rfl⟩
      · exact Lq.refl _
      · rw [List.concat_eq_append] at *
        cases a with
        | false =>
          have := D.f
          rw [cF_append] at this
          simp [cF] at this
        | true =>
          rw [almL_snocT, behindL_snoc]
          have D' : Dom A' [] := ⟨Nat.zero_le _, by have := D.f; rw [cF_append] at this; simpa [cF] using this, fun j x y _ h => by simp [aheadL] at h⟩
          exact (cutTo_le _ _).trans (ih A' [] (by simp at hn ⊢; omega) D')
    · rw [List.concat_eq_append] at *
      cases b with
      | true =>
        rw [almL_snocT, behindL_snoc]
        have h1 := D.t
        rw [cT_append] at h1
        have h1 : cT B' + 1 ≤ cT A := h1
        have D' : Dom A B' := ⟨by omega, by have := D.f; rw [cF_append] at this; simpa [cF] using this, fun j x y hx hy => D.le j x y hx (by rw [aheadL_snocT]; exact hy)⟩
        have hg : Gentle (cuts.getD (0 + cT B') 0) (behindL l (almL cuts fills 0 0 A)) := behindL_gentle (almL_nonneg hc hf A 0 0) _ (almL_memT cuts fills A 0 0 (cT B') (by omega))
        exact cutTo_max hg (ih A B' (by simp at hn; omega) D')
      | false =>
        rcases List.eq_nil_or_concat A with rfl | ⟨A', a, rfl⟩
        · rw [almL_snocF, behindL_snoc]
          have D' : Dom [] B' := ⟨by have := D.t; rw [cT_append] at this; simpa [cT] using this, Nat.zero_le _, fun j x y h _ => by simp [aheadL] at h⟩
          exact (ih [] B' (by simp at hn ⊢; omega) D').trans (fillTo_ge _ _)
        · rw [List.concat_eq_append] at *
          cases a with
          | false =>
            rw [almL_snocF, behindL_snoc]
            have h1 := D.f
            rw [cF_append] at h1
            have h1 : cF A' + 1 ≤ cF (B' ++ [false]) := h1
            have D' : Dom A' (B' ++ [false]) := ⟨by have := D.t; rw [cT_append A'] at this; simpa [cT] using this, by omega, fun j x y hx hy => D.le j x y (by rw [aheadL_snocF]; exact get_snoc_lt hx) hy⟩
            have hg : Gentle (fills.getD (0 + cF A') 0) (behindL l (almL cuts fills 0 0 (B' ++ [false]))) := behindL_gentle (almL_nonneg hc hf _ 0 0) _ (almL_memF cuts fills _ 0 0 (cF A') (by omega))
            exact fillTo_min hg (ih A' (B' ++ [false]) (by simp at hn ⊢; omega) D')
          | true =>
            have ht := D.t
            have hff := D.f
            rw [cT_append, cT_append] at ht
            rw [cF_append, cF_append] at hff
            have ht : cT B' + 0 ≤ cT A' + 1 := ht
            have hff : cF A' + 0 ≤ cF B' + 1 := hff
            by_cases h1 : cF A' ≤ cF B'
            · have D' : Dom (A' ++ [true]) B' := ⟨by rw [cT_append]; show cT B' ≤ cT A' + 1; omega, by rw [cF_append]; show cF A' + 0 ≤ cF B'; omega, fun j x y hx hy => D.le j x y hx (by rw [aheadL_snocF]; exact get_snoc_lt hy)⟩
              rw [almL_snocF, behindL_snoc]
              exact (ih (A' ++ [true]) B' (by simp at hn ⊢; omega) D').trans (fillTo_ge _ _)
            · by_cases h2 : cT B' ≤ cT A'
              · have D' : Dom A' (B' ++ [false]) := ⟨by rw [cT_append]; show cT B' + 0 ≤ cT A'; omega, by rw [cF_append]; show cF A' ≤ cF B' + 1; omega, fun j x y hx hy => D.le j x y (by rw [aheadL_snocT]; exact hx) hy⟩
                rw [almL_snocT, behindL_snoc]
                exact (cutTo_le _ _).trans (ih A' (B' ++ [false]) (by simp at hn ⊢; omega) D')
              · exfalso
                have e : cF A' = cF B' + 1 := by omega
                have hlen := aheadL_len A' 0
                have hx : (aheadL 0 A')[cF B']? = some ((aheadL 0 A')[cF B']'(by omega)) := List.getElem?_eq_getElem (by omega)
                have hy : (aheadL 0 (B' ++ [false]))[cF B']? = some (0 + cT B') := by
                  rw [aheadL_snocF, List.getElem?_append_right (by rw [aheadL_len]; exact Nat.le_refl _), aheadL_len, Nat.sub_self]; rfl
                have := D.le _ _ _ (by rw [aheadL_snocT]; exact hx) hy
                have hm := aheadL_le A' 0 _ (List.mem_of_getElem? hx)
                omega
end Pl
namespace Pl
def Rise (m : Nat) : Nat → List Nat → Prop
  | d, [] => d ≤ m
  | d, a :: as => d ≤ a ∧ Rise m a as
def ordW (d : Nat) : List Nat → Nat → List Bool
  | [], m => List.replicate (m - d) true
  | a :: as, m => List.replicate (a - d) true ++ false :: ordW a as m
theorem Rise.le {m : Nat} : ∀ {as : List Nat} {d : Nat}, Rise m d as → d ≤ m
  | [], _, h => h
  | a :: as, d, h => Nat.le_trans h.1 (Rise.le h.2)
theorem cT_rep : ∀ n : Nat, cT (List.replicate n true) = n
  | 0 => rfl
  | n + 1 => by show cT (List.replicate n true) + 1 = n + 1; rw [cT_rep n]
theorem cF_rep : ∀ n : Nat, cF (List.replicate n true) = 0
  | 0 => rfl
  | n + 1 => cF_rep n
theorem ahead_rep (o : List Bool) : ∀ (n k : Nat), aheadL k (List.replicate n true ++ o) = aheadL (k + n) o
  | 0, k => rfl
  | n + 1, k => by
    show aheadL (k + 1) (List.replicate n true ++ o) = _
    rw [ahead_rep o n (k + 1), show k + 1 + n = k + (n + 1) by omega]
theorem ordW_cT {m : Nat} : ∀ {as : List Nat} {d : Nat}, Rise m d as → cT (ordW d as m) = m - d
  | [], d, _ => cT_rep _
  | a :: as, d, h => by
    show cT (List.replicate (a - d) true ++ false :: ordW a as m) = m - d
    rw [cT_append, cT_rep]
    show a - d + cT (ordW a as m) = m - d
    rw [ordW_cT h.2]
    have := h.1; have := h.2.le; omega
theorem ordW_cF (m : Nat) : ∀ (as : List Nat) (d : Nat), cF (ordW d as m) = as.length
  | [], d => cF_rep _
  | a :: as, d => by
    show cF (List.replicate (a - d) true ++ false :: ordW a as m) = as.length + 1
    rw [cF_append, cF_rep]
    show 0 + (cF (ordW a as m) + 1) = as.length + 1
    rw [ordW_cF m as a]; omega
theorem ordW_ahead {m : Nat} : ∀ {as : List Nat} {d : Nat}, Rise m d as → aheadL d (ordW d as m) = as
  | [], d, _ => by
    show aheadL d (List.replicate (m - d) true) = []
    have := ahead_rep [] (m - d) d
    rw [List.append_nil] at this
    rw [this]; rfl
  | a :: as, d, h => by
    show aheadL d (List.replicate (a - d) true ++ false :: ordW a as m) = a :: as
    rw [ahead_rep, show d + (a - d) = a by have := h.1; omega]
    show a :: aheadL a (ordW a as m) = a :: as
    rw [ordW_ahead h.2]
theorem ordW_step {m k : Nat} : ∀ {as : List Nat}, Rise m (k + 1) as → ordW k as m = true :: ordW (k + 1) as m
  | [], h => by
    have h : k + 1 ≤ m := h
    show List.replicate (m - k) true = true :: List.replicate (m - (k + 1)) true
    rw [show m - k = (m - (k + 1)) + 1 by omega]; rfl
  | a :: as, h => by
    have := h.1
    show List.replicate (a - k) true ++ false :: ordW a as m = true :: (List.replicate (a - (k + 1)) true ++ false :: ordW a as m)
    rw [show a - k = (a - (k + 1)) + 1 by omega]; rfl
theorem rise_ahead : ∀ (o : List Bool) (k : Nat), Rise (k + cT o) k (aheadL k o)
  | [], k => by show k ≤ k + 0; omega
  | true :: o, k => by
    show Rise (k + (cT o + 1)) k (aheadL (k + 1) o)
    have h := rise_ahead o (k + 1)
    rw [show k + 1 + cT o = k + (cT o + 1) by omega] at h
    generalize aheadL (k + 1) o = as at h
    cases as with
    | nil => show k ≤ _; omega
    | cons a as => exact ⟨by have := h.1; omega, h.2⟩
  | false :: o, k => ⟨Nat.le_refl _, rise_ahead o k⟩
theorem ord_of : ∀ (o : List Bool) (k : Nat), ordW k (aheadL k o) (k + cT o) = o
  | [], k => by show List.replicate (k + 0 - k) true = []; rw [show k + 0 - k = 0 by omega]; rfl
  | true :: o, k => by
    show ordW k (aheadL (k + 1) o) (k + (cT o + 1)) = true :: o
    have h := rise_ahead o (k + 1)
    rw [show k + 1 + cT o = k + (cT o + 1) by omega] at h
    rw [ordW_step h]
    have e := ord_of o (k + 1)
    rw [show k + 1 + cT o = k + (cT o + 1) by omega] at e
    rw [e]
  | false :: o, k => by
    show List.replicate (k - k) true ++ false :: ordW k (aheadL k o) (k + cT o) = false :: o
    rw [Nat.sub_self, ord_of o k]; rfl
theorem rise_get {m : Nat} : ∀ {as : List Nat} {d : Nat}, Rise m d as → ∀ (i j x y : Nat), i ≤ j → as[i]? = some x → as[j]? = some y → x ≤ y ∧ d ≤ x ∧ y ≤ m
  | [], _, _, i, j, x, y, _, h, _ => by simp at h
  | a :: as, d, h, 0, 0, x, y, _, h1, h2 => by
    have e1 : a = x := by simpa using h1
    have e2 : a = y := by simpa using h2
    subst e1 e2
    exact ⟨Nat.le_refl _, h.1, h.2.le⟩
  | a :: as, d, h, 0, j + 1, x, y, _, h1, h2 => by
    have e1 : a = x := by simpa using h1
    subst e1
    have h2 : as[j]? = some y := by simpa using h2
    have := rise_get h.2 j j y y (Nat.le_refl _) h2 h2
    exact ⟨this.2.1, h.1, this.2.2⟩
  | a :: as, d, h, i + 1, j + 1, x, y, hij, h1, h2 => by
    have := rise_get h.2 i j x y (by omega) (by simpa using h1) (by simpa using h2)
    exact ⟨this.1, Nat.le_trans h.1 this.2.1, this.2.2⟩
  | a :: as, d, h, i + 1, 0, x, y, hij, _, _ => by omega
theorem rise_of {m : Nat} (f : Nat → Nat) (hm : ∀ i, f i ≤ m) : ∀ (n k d : Nat), d ≤ m → (∀ i, k ≤ i → d ≤ f i) → (∀ i j, i ≤ j → f i ≤ f j) → Rise m d ((List.range' k n).map f)
  | 0, k, d, h0, _, _ => h0
  | n + 1, k, d, h0, hd, hf => ⟨hd k (Nat.le_refl _), rise_of f hm n (k + 1) (f k) (hm k) (fun i hi => hf k i (by omega)) hf⟩
abbrev Wo := Bool × Nat × Nat
def hasW (as : List Nat) (w : Wo) : Bool := w.1 == decide (w.2.1 < as.getD w.2.2 0)
def contr (u v : Wo) : Bool := match u.1, v.1 with
  | true, false => decide (v.2.1 ≤ u.2.1) && decide (u.2.2 ≤ v.2.2)
  | false, true => decide (u.2.1 ≤ v.2.1) && decide (v.2.2 ≤ u.2.2)
  | _, _ => false
def loN (ws : List Wo) (f : Nat) : Nat := ((ws.filter fun w => w.1 && decide (w.2.2 ≤ f)).map fun w => w.2.1 + 1).foldl max 0
def hiN (m : Nat) (ws : List Wo) (f : Nat) : Nat := ((ws.filter fun w => !w.1 && decide (f ≤ w.2.2)).map fun w => w.2.1).foldl min m
theorem nmax_le {b : Nat} : ∀ {l : List Nat} {a : Nat}, l.foldl max a ≤ b ↔ a ≤ b ∧ ∀ x ∈ l, x ≤ b
  | [], a => by simp
  | x :: l, a => by
    rw [List.foldl_cons, nmax_le]
    simp
    constructor
    · rintro ⟨h1, h2⟩; exact ⟨by omega, by omega, h2⟩
    · rintro ⟨h1, h2, h3⟩; exact ⟨by omega, h3⟩
theorem nmin_ge {b : Nat} : ∀ {l : List Nat} {a : Nat}, b ≤ l.foldl min a ↔ b ≤ a ∧ ∀ x ∈ l, b ≤ x
  | [], a => by simp
  | x :: l, a => by
    rw [List.foldl_cons, nmin_ge]
    simp
    constructor
    · rintro ⟨h1, h2⟩; exact ⟨by omega, by omega, h2⟩
    · rintro ⟨h1, h2, h3⟩; exact ⟨by omega, h3⟩
theorem lo_le {ws : List Wo} {f b : Nat} : loN ws f ≤ b ↔ ∀ w ∈ ws, w.1 = true → w.2.2 ≤ f → w.2.1 + 1 ≤ b := by
  unfold loN
  rw [nmax_le]
  constructor
  · rintro ⟨_, h⟩ w hw h1 h2
    exact h _ (List.mem_map.mpr ⟨w, List.mem_filter.mpr ⟨hw, by simp [h1, h2]⟩, rfl⟩)
  · intro h
    refine ⟨Nat.zero_le _, fun x hx => ?_⟩
    obtain ⟨w, hw, rfl⟩ := List.mem_map.mp hx
    obtain ⟨hw, hp⟩ := List.mem_filter.mp hw
    have hp : w.1 = true ∧ w.2.2 ≤ f := by simpa using hp
    exact h w hw hp.1 hp.2
theorem hi_ge {m : Nat} {ws : List Wo} {f b : Nat} : b ≤ hiN m ws f ↔ b ≤ m ∧ ∀ w ∈ ws, w.1 = false → f ≤ w.2.2 → b ≤ w.2.1 := by
  unfold hiN
  rw [nmin_ge]
  constructor
  · rintro ⟨h0, h⟩
    exact ⟨h0, fun w hw h1 h2 => h _ (List.mem_map.mpr ⟨w, List.mem_filter.mpr ⟨hw, by simp [h1, h2]⟩, rfl⟩)⟩
  · rintro ⟨h0, h⟩
    refine ⟨h0, fun x hx => ?_⟩
    obtain ⟨w, hw, rfl⟩ := List.mem_map.mp hx
    obtain ⟨hw, hp⟩ := List.mem_filter.mp hw
    have hp : w.1 = false ∧ f ≤ w.2.2 := by simpa using hp
    exact h w hw hp.1 hp.2
theorem lo_rise (ws : List Wo) {f g : Nat} (h : f ≤ g) : loN ws f ≤ loN ws g := lo_le.mpr fun w hw h1 h2 => lo_le.mp (Nat.le_refl (loN ws g)) w hw h1 (by omega)
theorem hi_rise (m : Nat) (ws : List Wo) {f g : Nat} (h : f ≤ g) : hiN m ws f ≤ hiN m ws g := hi_ge.mpr ⟨(hi_ge.mp (Nat.le_refl (hiN m ws f))).1, fun w hw h1 h2 => (hi_ge.mp (Nat.le_refl (hiN m ws f))).2 w hw h1 (by omega)⟩
def InB (m n : Nat) (ws : List Wo) : Prop := ∀ w ∈ ws, w.2.1 < m ∧ w.2.2 < n
theorem lo_top {m n : Nat} {ws : List Wo} (h : InB m n ws) (f : Nat) : loN ws f ≤ m := lo_le.mpr fun w hw _ _ => (h w hw).1
theorem hi_top (m : Nat) (ws : List Wo) (f : Nat) : hiN m ws f ≤ m := (hi_ge.mp (Nat.le_refl (hiN m ws f))).1
def loL (n : Nat) (ws : List Wo) : List Nat := (List.range' 0 n).map (loN ws)
def hiL (m n : Nat) (ws : List Wo) : List Nat := (List.range' 0 n).map (hiN m ws)
theorem loL_rise {m n : Nat} {ws : List Wo} (h : InB m n ws) : Rise m 0 (loL n ws) := rise_of _ (lo_top h) n 0 0 (Nat.zero_le _) (fun _ _ => Nat.zero_le _) fun _ _ h => lo_rise ws h
theorem hiL_rise (m n : Nat) (ws : List Wo) : Rise m 0 (hiL m n ws) := rise_of _ (hi_top m ws) n 0 0 (Nat.zero_le _) (fun _ _ => Nat.zero_le _) fun _ _ h => hi_rise m ws h
theorem has_between {m : Nat} {as : List Nat} (hr : Rise m 0 as) {ws : List Wo} (hb : InB m as.length ws) (h : ∀ w ∈ ws, hasW as w = true) {f x : Nat} (hx : as[f]? = some x) : loN ws f ≤ x ∧ x ≤ hiN m ws f := by
  refine ⟨lo_le.mpr fun w hw h1 h2 => ?_, hi_ge.mpr ⟨(rise_get hr f f x x (Nat.le_refl _) hx hx).2.2, fun w hw h1 h2 => ?_⟩⟩
  · have hh := h w hw
    unfold hasW at hh
    rw [h1] at hh
    have hlt : w.2.1 < as.getD w.2.2 0 := by simpa using hh
    have hg : as[w.2.2]? = some (as[w.2.2]'(hb w hw).2) := List.getElem?_eq_getElem _
    rw [List.getD_eq_getElem?_getD, hg] at hlt
    have := (rise_get hr _ _ _ _ h2 hg hx).1
    have hlt : w.2.1 < as[w.2.2]'(hb w hw).2 := hlt
    omega
  · have hh := h w hw
    unfold hasW at hh
    rw [h1] at hh
    have hlt : ¬ w.2.1 < as.getD w.2.2 0 := by simpa using hh
    have hg : as[w.2.2]? = some (as[w.2.2]'(hb w hw).2) := List.getElem?_eq_getElem _
    rw [List.getD_eq_getElem?_getD, hg] at hlt
    have := (rise_get hr _ _ _ _ h2 hx hg).1
    have hlt : ¬ w.2.1 < as[w.2.2]'(hb w hw).2 := hlt
    omega
theorem has_noclash {m : Nat} {as : List Nat} (hr : Rise m 0 as) {u v : Wo} (hu : u.2.2 < as.length) (hv : v.2.2 < as.length) (h1 : hasW as u = true) (h2 : hasW as v = true) : contr u v = false := by
  have key : ∀ {u v : Wo}, u.2.2 < as.length → v.2.2 < as.length → hasW as u = true → hasW as v = true → u.1 = true → v.1 = false → ¬ (v.2.1 ≤ u.2.1 ∧ u.2.2 ≤ v.2.2) := by
    intro u v hu hv h1 h2 e1 e2 hh
    unfold hasW at h1 h2
    rw [e1] at h1
    rw [e2] at h2
    have a1 : u.2.1 < as.getD u.2.2 0 := by simpa using h1
    have a2 : ¬ v.2.1 < as.getD v.2.2 0 := by simpa using h2
    have g1 : as[u.2.2]? = some (as[u.2.2]'hu) := List.getElem?_eq_getElem _
    have g2 : as[v.2.2]? = some (as[v.2.2]'hv) := List.getElem?_eq_getElem _
    rw [List.getD_eq_getElem?_getD, g1] at a1
    rw [List.getD_eq_getElem?_getD, g2] at a2
    have a1 : u.2.1 < as[u.2.2]'hu := a1
    have a2 : ¬ v.2.1 < as[v.2.2]'hv := a2
    have := (rise_get hr _ _ _ _ hh.2 g1 g2).1
    omega
  unfold contr
  cases e1 : u.1 with
  | true =>
    cases e2 : v.1 with
    | true => rfl
    | false => have := key hu hv h1 h2 e1 e2; simpa using fun h => by have := this; omega
  | false =>
    cases e2 : v.1 with
    | false => rfl
    | true => have := key hv hu h2 h1 e2 e1; simpa using fun h => by have := this; omega
theorem get_lo {n : Nat} {ws : List Wo} {f x : Nat} (h : (loL n ws)[f]? = some x) : x = loN ws f ∧ f < n := by
  unfold loL at h
  rw [List.getElem?_map] at h
  by_cases hf : f < n
  · rw [List.getElem?_range' hf] at h
    have h : loN ws (0 + 1 * f) = x := by simpa using h
    rw [show 0 + 1 * f = f by omega] at h
    exact ⟨h.symm, hf⟩
  · rw [List.getElem?_eq_none (by simpa using hf)] at h; cases h
theorem get_hi {m n : Nat} {ws : List Wo} {f x : Nat} (h : (hiL m n ws)[f]? = some x) : x = hiN m ws f ∧ f < n := by
  unfold hiL at h
  rw [List.getElem?_map] at h
  by_cases hf : f < n
  · rw [List.getElem?_range' hf] at h
    have h : hiN m ws (0 + 1 * f) = x := by simpa using h
    rw [show 0 + 1 * f = f by omega] at h
    exact ⟨h.symm, hf⟩
  · rw [List.getElem?_eq_none (by simpa using hf)] at h; cases h
end Pl
namespace Pl
def wayL (lo hi : Nat) : Nat → List Int → List Int
  | _, [] => []
  | k, x :: r => ((if lo ≤ k ∧ k ≤ hi then x else 0) + (wayL lo hi (k + 1) r).headD 0) :: wayL lo hi (k + 1) r
def baseL (m : Nat) : List Int := List.replicate (m + 1) 1 ++ [0]
def rowsL (m : Nat) : List (Nat × Nat) → List Int
  | [] => baseL m
  | b :: bs => wayL b.1 b.2 0 (rowsL m bs)
def manyL (m : Nat) (bs : List (Nat × Nat)) : Int := (rowsL m bs).headD 0
theorem wayL_len (lo hi : Nat) : ∀ (r : List Int) (k : Nat), (wayL lo hi k r).length = r.length
  | [], _ => rfl
  | x :: r, k => by simp [wayL, wayL_len lo hi r]
theorem rowsL_len (m : Nat) : ∀ bs : List (Nat × Nat), (rowsL m bs).length = m + 2
  | [] => by simp [rowsL, baseL]
  | b :: bs => by rw [rowsL, wayL_len, rowsL_len m bs]
theorem headD_getD (l : List Int) : l.headD 0 = l.getD 0 0 := by cases l <;> rfl
theorem way_get (lo hi : Nat) : ∀ (r : List Int) (k i : Nat), (wayL lo hi k r).getD i 0 = (if lo ≤ k + i ∧ k + i ≤ hi then r.getD i 0 else 0) + (wayL lo hi k r).getD (i + 1) 0
  | [], k, i => by simp [wayL]
  | x :: r, k, 0 => by
    show (if lo ≤ k ∧ k ≤ hi then x else 0) + (wayL lo hi (k + 1) r).headD 0 = _
    rw [headD_getD]; rfl
  | x :: r, k, i + 1 => by
    show (wayL lo hi (k + 1) r).getD i 0 = (if lo ≤ k + (i + 1) ∧ k + (i + 1) ≤ hi then r.getD i 0 else 0) + (wayL lo hi (k + 1) r).getD (i + 1) 0
    have := way_get lo hi r (k + 1) i
    rw [show k + 1 + i = k + (i + 1) by omega] at this
    exact this
theorem rowL_out (m : Nat) (bs : List (Nat × Nat)) (i : Nat) (h : m + 2 ≤ i) : (rowsL m bs).getD i 0 = 0 := by
  rw [List.getD_eq_getElem?_getD, List.getElem?_eq_none (by rw [rowsL_len]; exact h)]; rfl
theorem rowL_get (m : Nat) (b : Nat × Nat) (bs : List (Nat × Nat)) (i : Nat) : (rowsL m (b :: bs)).getD i 0 = (if b.1 ≤ i ∧ i ≤ b.2 then (rowsL m bs).getD i 0 else 0) + (rowsL m (b :: bs)).getD (i + 1) 0 := by
  have := way_get b.1 b.2 (rowsL m bs) 0 i
  rw [Nat.zero_add] at this
  exact this
theorem base_get (m i : Nat) : (baseL m).getD i 0 = if i ≤ m then 1 else 0 := by
  unfold baseL
  rw [List.getD_eq_getElem?_getD]
  by_cases h : i ≤ m
  · rw [if_pos h, List.getElem?_append_left (by simp; omega), List.getElem?_replicate, if_pos (by omega)]; rfl
  · rw [if_neg h, List.getElem?_append_right (by simp; omega)]
    rw [List.length_replicate]
    rcases Nat.eq_zero_or_pos (i - (m + 1)) with z | z
    · rw [z]; rfl
    · rw [List.getElem?_eq_none (by show 1 ≤ i - (m + 1); omega)]; rfl
theorem down_ind {N : Nat} {P : Nat → Prop} (h0 : ∀ i, N ≤ i → P i) (hs : ∀ i, P (i + 1) → P i) : ∀ i, P i := by
  intro i
  have : ∀ d i, N - i ≤ d → P i := by
    intro d
    induction d with
    | zero => intro i h; exact h0 i (by omega)
    | succ d ih => intro i h; exact hs i (ih (i + 1) (by omega))
  exact this N i (by omega)
theorem rowL_nonneg (m : Nat) : ∀ (bs : List (Nat × Nat)) (i : Nat), 0 ≤ (rowsL m bs).getD i 0
  | [], i => by show 0 ≤ (baseL m).getD i 0; rw [base_get]; split <;> omega
  | b :: bs, i => by
    refine down_ind (N := m + 2) (P := fun i => 0 ≤ (rowsL m (b :: bs)).getD i 0) (fun i h => by rw [rowL_out m _ i h]; omega) (fun i h => ?_) i
    rw [rowL_get]
    have := rowL_nonneg m bs i
    split <;> omega
def Fits2 (m : Nat) : Nat → List (Nat × Nat) → List Nat → Prop
  | d, [], [] => d ≤ m
  | d, b :: bs, a :: as => d ≤ a ∧ b.1 ≤ a ∧ a ≤ b.2 ∧ Fits2 m a bs as
  | _, _, _ => False
theorem fits_top {m : Nat} : ∀ {bs : List (Nat × Nat)} {as : List Nat} {d : Nat}, Fits2 m d bs as → d ≤ m
  | [], [], _, h => h
  | b :: bs, a :: as, d, h => Nat.le_trans h.1 (fits_top h.2.2.2)
  | [], _ :: _, _, h => h.elim
  | _ :: _, [], _, h => h.elim
theorem rowL_later (m : Nat) (b : Nat × Nat) (bs : List (Nat × Nat)) : ∀ (d a : Nat), d ≤ a → (rowsL m (b :: bs)).getD a 0 ≤ (rowsL m (b :: bs)).getD d 0 := by
  intro d a h
  obtain ⟨k, rfl⟩ := Nat.exists_eq_add_of_le h
  clear h
  induction k with
  | zero => exact Int.le_refl _
  | succ k ih =>
    have := rowL_get m b bs (d + k)
    have h2 := rowL_nonneg m bs (d + k)
    rw [show d + (k + 1) = d + k + 1 by omega]
    split at this <;> omega
end Pl
namespace Pl
open PySem PySem.Spec PyProof.Rows L2
def sg : Bool → Nat
  | true => 99
  | false => 102
def sgS (b : Bool) : Str := ⟨#[sg b]⟩
def txt (o : List Bool) : Str := ⟨(o.map sg).toArray⟩
def sgD (b : Bool) : D := .str (sgS b)
theorem signs_txt (o : List Bool) : signsD (txt o) = o.map sgD := by
  unfold signsD txt
  rw [List.map_map]; rfl
theorem txt_len (o : List Bool) : (txt o).length = o.length := by
  show (o.map sg).toArray.size = o.length
  simp
theorem txt_append (a b : List Bool) : txt a ++ txt b = txt (a ++ b) := by
  show (⟨(a.map sg).toArray ++ (b.map sg).toArray⟩ : Str) = ⟨((a ++ b).map sg).toArray⟩
  simp
theorem eqv_sgc (b : Bool) : (sgD b).eqv (.str "c") = b := by cases b <;> decide +kernel
theorem sh_sg (b : Bool) : (sgD b).sh := by cases b <;> (unfold D.sh; decide +kernel)
theorem sh_c : (D.str "c").sh := by unfold D.sh; decide +kernel
theorem eqv_words' (a b : Bool) : (D.str (wordS a)).eqv (.str (wordS b)) = (a == b) := by cases a <;> cases b <;> decide +kernel
theorem sh_word' (c : Bool) : (D.str (wordS c)).sh := by cases c with | true => exact sh_cut | false => exact sh_fill
theorem atI_get {ns : List Int} {j : Nat} (h : j < ns.length) : atI (dI ns) ((j : Nat) : Int) = some (.int (ns.getD j 0)) := atI_ints' h
def g_almanac_of : FA := fun ds C => ∃ d cuts e fills o, ds = [d, e, .str (txt o)] ∧ Sq d cuts ∧ Sq e fills ∧ cT o ≤ cuts.length ∧ cF o ≤ fills.length ∧ o.length ≤ 900 ∧ ∀ p, C (.own p (windsD (almL cuts fills 0 0 o)))
theorem rd_almanac_of : ∀ ds C, ds.length = 3 → g_almanac_of ds C → T_almanac_of { nx := fun _ => C (.val .non), rt := fun c _ => C c } (startA N_almanac_of ds) := by
  rintro ds C - ⟨d, cuts, e, fills, o, rfl, hd, he, hc, hf, hl, hC⟩
  have h2 : (2 : Nat) ≤ sizeLine := by decide
  have ix : ∀ {d : D} {ns : List Int} {j : Nat} {Q : D → Prop}, Sq d ns → j < ns.length → Q (.int (ns.getD j 0)) → fIx d (.int ((j : Nat) : Int)) Q := by
    intro d ns j Q hd hj hq
    rcases hd with rfl | rfl
    · exact ⟨_, atI_get hj, hq⟩
    · exact ⟨_, atI_get hj, hq⟩
  refine ⟨by show (0 : Nat) ≤ sizeLine; decide, fun b => ?_⟩
  show forW _ _ _ (signsD (txt o)) _
  rw [signs_txt]
  refine for_inv (fun ds ρ => ∃ (done rest : List Bool) (w : Option Cell), ds = rest.map sgD ∧ o = done ++ rest ∧ ρ = [some (.val d), some (.val e), some (.val (.str (txt o))), some (.own b (windsD (almL cuts fills 0 0 done))), some (.val (.int ((cT done : Nat) : Int))), some (.val (.int ((cF done : Nat) : Int))), w]) (fun x r ρ K hK hI => ?_) (fun ρ hI => ?_) _ _ ⟨[], o, none, rfl, rfl, rfl⟩
  · obtain ⟨done, rest, w, e1, e2, rfl⟩ := hI
    cases rest with
    | nil => cases e1
    | cons s rest =>
      cases e1
      have hT : cT done + cT (s :: rest) = cT o := by rw [e2, cT_append]
      have hF : cF done + cF (s :: rest) = cF o := by rw [e2, cF_append]
      have hlen : done.length + (rest.length + 1) = o.length := by rw [e2]; simp
      have hz : (windsD (almL cuts fills 0 0 done)).length < sizeLine := small1000 (by rw [windsD_len, almL_len]; omega)
      refine ⟨sh_sg s, sh_c, ?_⟩
      cases s with
      | true =>
        have hT : cT done + (cT rest + 1) = cT o := hT
        refine ifT (eqv_sgc true) ?_
        refine ix hd (by omega) ⟨h2, _, rfl, hz, ?_⟩
        refine ⟨_, rfl, hK _ ⟨done ++ [true], rest, some (.val (sgD true)), rfl, by rw [e2]; simp, ?_⟩⟩
        rw [almL_snocT, ← windsD_append, cT_append, cF_append, Nat.zero_add]
        show [some (Cell.val d), some (.val e), some (.val (.str (txt o))), some (.own b (windsD (almL cuts fills 0 0 done) ++ [windD true (cuts.getD (cT done) 0)])), some (.val (.int (((cT done : Nat) : Int) + 1))), some (.val (.int ((cF done : Nat) : Int))), some (.val (sgD true))] = _
        rfl
      | false =>
        have hF : cF done + (cF rest + 1) = cF o := hF
        refine ifF (eqv_sgc false) ?_
        refine ix he (by omega) ⟨h2, _, rfl, hz, ?_⟩
        refine ⟨_, rfl, hK _ ⟨done ++ [false], rest, some (.val (sgD false)), rfl, by rw [e2]; simp, ?_⟩⟩
        rw [almL_snocF, ← windsD_append, cT_append, cF_append, Nat.zero_add]
        rfl
  · obtain ⟨done, rest, w, e1, e2, rfl⟩ := hI
    cases rest with
    | cons s rest => cases e1
    | nil =>
      rw [List.append_nil] at e2
      subst e2
      exact hC b
def wordD (w : Wo) : D := .tup [.str (wordS w.1), .int ((w.2.1 : Nat) : Int), .int ((w.2.2 : Nat) : Int)]
def wordsD (ws : List Wo) : List D := ws.map wordD
theorem wordsD_len (ws : List Wo) : (wordsD ws).length = ws.length := by simp [wordsD]
def Ws (d : D) (ws : List Wo) : Prop := d = .lst (wordsD ws) ∨ d = .tup (wordsD ws)
def g_are_contrary : FA := fun ds C => ∃ u v, ds = [wordD u, wordD v] ∧ C (.val (.bl (contr u v)))
theorem bl_le {a b : Nat} : decide (((a : Nat) : Int) ≤ ((b : Nat) : Int)) = decide (a ≤ b) := decide_eq_decide.mpr (by omega)
theorem rd_are_contrary : ∀ ds C, ds.length = 2 → g_are_contrary ds C → T_are_contrary { nx := fun _ => C (.val .non), rt := fun c _ => C c } (startA N_are_contrary ds) := by
  rintro ds C - ⟨⟨a, c, f⟩, ⟨a', c', f'⟩, rfl, hC⟩
  have h2 : (2 : Nat) ≤ sizeLine := by decide
  refine ⟨_, rfl, _, rfl, sh_word' a, sh_word' a', ?_⟩
  refine ifB (fun h => ?_) (fun h => ?_)
  · rw [show (D.str (wordS a)).eqv (.str (wordS a')) = _ from eqv_words' a a'] at h
    have h : a = a' := by simpa using h
    subst h
    have e : contr (a, c, f) (a, c', f') = false := by cases a <;> rfl
    rw [e] at hC
    exact hC
  · rw [show (D.str (wordS a)).eqv (.str (wordS a')) = _ from eqv_words' a a'] at h
    have h : a ≠ a' := by simpa using h
    refine ⟨_, rfl, sh_word' a, sh_cut, ?_⟩
    cases a with
    | true =>
      have e : a' = false := by cases a' <;> simp at h ⊢
      subst e
      refine ifT (show (D.str (wordS true)).eqv (.str (wordS true)) = true from eqv_words' true true) ⟨h2, rfl, rfl, ?_⟩
      have e : contr (true, c, f) (false, c', f') = (decide (c' ≤ c) && decide (f ≤ f')) := rfl
      rw [e] at hC
      refine ⟨_, rfl, _, rfl, ifB (fun q => ?_) (fun q => ?_)⟩
      · rw [bl_le] at q; rw [q] at hC
        refine ⟨_, rfl, _, rfl, ?_⟩
        show C (.val (.bl (decide (((f : Nat) : Int) ≤ ((f' : Nat) : Int)))))
        rw [bl_le]; exact hC
      · rw [bl_le] at q; rw [q] at hC; exact hC
    | false =>
      have e : a' = true := by cases a' <;> simp at h ⊢
      subst e
      refine ifF (show (D.str (wordS false)).eqv (.str (wordS true)) = false from eqv_words' false true) ⟨h2, rfl, rfl, ?_⟩
      have e : contr (false, c, f) (true, c', f') = (decide (c ≤ c') && decide (f' ≤ f)) := rfl
      rw [e] at hC
      refine ⟨_, rfl, _, rfl, ifB (fun q => ?_) (fun q => ?_)⟩
      · rw [bl_le] at q; rw [q] at hC
        refine ⟨_, rfl, _, rfl, ?_⟩
        show C (.val (.bl (decide (((f' : Nat) : Int) ≤ ((f : Nat) : Int)))))
        rw [bl_le]; exact hC
      · rw [bl_le] at q; rw [q] at hC; exact hC
def NoClash (ws : List Wo) : Prop := ∀ u ∈ ws, ∀ v ∈ ws, contr u v = false
def g_first_clash : FA := fun ds C => ∃ d ws, ds = [d] ∧ Ws d ws ∧ NoClash ws ∧ ws.length ≤ 1000 ∧ C (.val .non)
def g_refuse_clash : FA := fun ds C => ∃ d ws, ds = [d] ∧ Ws d ws ∧ NoClash ws ∧ ws.length ≤ 1000 ∧ C (.val .non)
end Pl
namespace Pl
open PySem PySem.Spec PyProof.Rows L2
theorem lcW_words {vs : List Nat} {g : TGp} {tt : TTp} {te : TEp} {Q : List D → Ro → Prop} {p : Wo → Bool} {f : Wo → D} {ρ : Ro} : ∀ (ws : List Wo) (acc : List D),
    (∀ w ∈ ws, ∀ K : Bool → Ro → Prop, (∀ ρ3, restore ρ ρ3 vs = ρ → (p w = true → ∀ K2 : D → Ro → Prop, (∀ ρ4, restore ρ ρ4 vs = ρ → K2 (f w) ρ4) → te ρ3 K2) → K (p w) ρ3) → g (wordD w) (wipeP ρ vs) fun ρ2 => tt ρ2 K) → acc.length + ws.length ≤ 1000 → Q (acc ++ (ws.filter p).map f) ρ → lcW vs g tt te Q (wordsD ws) acc ρ
  | [], acc, _, _, hQ => by
    have hQ : Q (acc ++ []) ρ := hQ
    rw [List.append_nil] at hQ
    exact hQ
  | d :: ds, acc, h, hl, hQ => by
    have hl' : acc.length + (ds.length + 1) ≤ 1000 := hl
    refine h d (by simp) _ fun ρ3 e3 ht => ?_
    cases hp : p d with
    | true =>
      refine ite_ti (ht hp _ fun ρ4 e4 => ⟨small1000 (by omega), ?_⟩)
      rw [e4]
      refine lcW_words ds _ (fun x hx => h x (by simp [hx])) (by rw [List.length_append]; show acc.length + 1 + ds.length ≤ 1000; omega) ?_
      rw [List.filter_cons_of_pos hp, List.map_cons] at hQ
      rw [List.append_assoc]
      exact hQ
    | false =>
      refine ite_fi ?_
      rw [e3]
      refine lcW_words ds _ (fun x hx => h x (by simp [hx])) (by omega) ?_
      rw [List.filter_cons_of_neg (by rw [hp]; simp)] at hQ
      exact hQ
theorem bestDD_max : ∀ l : List Nat, bestDD max (.int 0) (l.map fun (n : Nat) => (n : Int)) = .int ((l.foldl max 0 : Nat) : Int) := by
  have key : ∀ (l : List Nat) (a : Nat), (l.map fun (n : Nat) => (n : Int)).foldl max (a : Int) = ((l.foldl max a : Nat) : Int) := by
    intro l
    induction l with
    | nil => intro a; rfl
    | cons x l ih =>
      intro a
      rw [List.map_cons, List.foldl_cons, List.foldl_cons, ← ih]
      congr 1
      omega
  intro l
  cases l with
  | nil => rfl
  | cons x l =>
    show D.int ((l.map fun (n : Nat) => (n : Int)).foldl max (x : Int)) = .int (((x :: l).foldl max 0 : Nat) : Int)
    rw [key, List.foldl_cons, Nat.zero_max]
theorem bestDD_min (m : Nat) : ∀ l : List Nat, (∀ x ∈ l, x ≤ m) → bestDD min (.int (m : Int)) (l.map fun (n : Nat) => (n : Int)) = .int ((l.foldl min m : Nat) : Int) := by
  have key : ∀ (l : List Nat) (a : Nat), (l.map fun (n : Nat) => (n : Int)).foldl min (a : Int) = ((l.foldl min a : Nat) : Int) := by
    intro l
    induction l with
    | nil => intro a; rfl
    | cons x l ih =>
      intro a
      rw [List.map_cons, List.foldl_cons, List.foldl_cons, ← ih]
      congr 1
      omega
  intro l hl
  cases l with
  | nil => rfl
  | cons x l =>
    show D.int ((l.map fun (n : Nat) => (n : Int)).foldl min (x : Int)) = .int (((x :: l).foldl min m : Nat) : Int)
    rw [key, List.foldl_cons, Nat.min_eq_right (hl x (by simp))]
def g_least_ahead : FA := fun ds C => ∃ d ws f, ds = [d, .int ((f : Nat) : Int)] ∧ Ws d ws ∧ ws.length ≤ 1000 ∧ C (.val (.int ((loN ws f : Nat) : Int)))
theorem rd_least_ahead : ∀ ds C, ds.length = 2 → g_least_ahead ds C → T_least_ahead { nx := fun _ => C (.val .non), rt := fun c _ => C c } (startA N_least_ahead ds) := by
  rintro ds C - ⟨d, ws, f, rfl, hd, hl, hC⟩
  have key : lcW [2, 3, 4] (hTup 3 (hCons (hName 2) (hCons (hName 3) (hCons (hName 4) hNil)))) (pAnd (pTest (pOp fEq (pVar 2) (pC (.str "cut")))) (pTest (pOp fLe (pVar 4) (pVar 1)))) (pOp fAdd (pVar 3) (pC (.int 1))) (fun acc ρ2 => ∃ ns, acc = ns.map D.int ∧ C (.val (bestDD max (.int 0) ns))) (wordsD ws) [] [some (.val d), some (.val (.int (f : Int))), none, none, none] := by
    refine lcW_words (p := fun w => w.1 && decide (w.2.2 ≤ f)) (f := fun w => .int (((w.2.1 + 1 : Nat)) : Int)) ws [] (fun w _ K hK => ?_) (by simpa using hl) ?_
    · refine ⟨rfl, rfl, sh_word' w.1, sh_cut, ?_⟩
      refine ifB (fun h => ?_) (fun h => ?_)
      · have h : w.1 = true := by rw [show (D.str (wordS w.1)).eqv (.str "cut") = _ from eqv_words' w.1 true] at h; simpa using h
        have := hK [some (.val d), some (.val (.int (f : Int))), some (.val (.str (wordS w.1))), some (.val (.int ((w.2.1 : Nat) : Int))), some (.val (.int ((w.2.2 : Nat) : Int)))] rfl fun _ K2 hK2 => hK2 _ rfl
        rw [h] at this
        show K (decide (((w.2.2 : Nat) : Int) ≤ (f : Int))) _
        rw [bl_le, h]
        exact this
      · have h : w.1 = false := by rw [show (D.str (wordS w.1)).eqv (.str "cut") = _ from eqv_words' w.1 true] at h; simpa using h
        have := hK [some (.val d), some (.val (.int (f : Int))), some (.val (.str (wordS w.1))), some (.val (.int ((w.2.1 : Nat) : Int))), some (.val (.int ((w.2.2 : Nat) : Int)))] rfl fun _ K2 hK2 => hK2 _ rfl
        rw [h] at this
        rw [h]
        exact this
    · refine ⟨((ws.filter fun w => w.1 && decide (w.2.2 ≤ f)).map fun w => w.2.1 + 1).map fun (n : Nat) => (n : Int), ?_, ?_⟩
      · rw [List.nil_append, List.map_map, List.map_map]; rfl
      · rw [bestDD_max]; exact hC
  rcases hd with rfl | rfl <;> exact key
def g_most_ahead : FA := fun ds C => ∃ d cuts e ws f, ds = [d, e, .int ((f : Nat) : Int)] ∧ Sq d cuts ∧ Ws e ws ∧ ws.length ≤ 1000 ∧ (∀ w ∈ ws, w.2.1 < cuts.length) ∧ C (.val (.int ((hiN cuts.length ws f : Nat) : Int)))
theorem rd_most_ahead : ∀ ds C, ds.length = 3 → g_most_ahead ds C → T_most_ahead { nx := fun _ => C (.val .non), rt := fun c _ => C c } (startA N_most_ahead ds) := by
  rintro ds C - ⟨d, cuts, e, ws, f, rfl, hd, he, hl, hw, hC⟩
  have key : ∀ Q : List D → Ro → Prop, Q ((ws.filter fun w => !w.1 && decide (f ≤ w.2.2)).map fun w => .int ((w.2.1 : Nat) : Int)) [some (.val d), some (.val e), some (.val (.int (f : Int))), none, none, none] → lcW [3, 4, 5] (hTup 3 (hCons (hName 3) (hCons (hName 4) (hCons (hName 5) hNil)))) (pAnd (pTest (pOp fEq (pVar 3) (pC (.str "fill")))) (pTest (pOp fGe (pVar 5) (pVar 2)))) (pVar 4) Q (wordsD ws) [] [some (.val d), some (.val e), some (.val (.int (f : Int))), none, none, none] := by
    intro Q hQ
    refine lcW_words (p := fun w => !w.1 && decide (f ≤ w.2.2)) (f := fun w => .int ((w.2.1 : Nat) : Int)) ws [] (fun w _ K hK => ?_) (by simpa using hl) (by rw [List.nil_append]; exact hQ)
    refine ⟨rfl, rfl, sh_word' w.1, sh_fill, ?_⟩
    refine ifB (fun h => ?_) (fun h => ?_)
    · have h : w.1 = false := by rw [show (D.str (wordS w.1)).eqv (.str "fill") = _ from eqv_words' w.1 false] at h; simpa using h
      have := hK [some (.val d), some (.val e), some (.val (.int (f : Int))), some (.val (.str (wordS w.1))), some (.val (.int ((w.2.1 : Nat) : Int))), some (.val (.int ((w.2.2 : Nat) : Int)))] rfl fun _ K2 hK2 => hK2 _ rfl
      rw [h] at this
      show K (decide ((f : Int) ≤ ((w.2.2 : Nat) : Int))) _
      rw [bl_le, h]
      exact this
    · have h : w.1 = true := by rw [show (D.str (wordS w.1)).eqv (.str "fill") = _ from eqv_words' w.1 false] at h; simpa using h
      have := hK [some (.val d), some (.val e), some (.val (.int (f : Int))), some (.val (.str (wordS w.1))), some (.val (.int ((w.2.1 : Nat) : Int))), some (.val (.int ((w.2.2 : Nat) : Int)))] rfl fun _ K2 hK2 => hK2 _ rfl
      rw [h] at this
      rw [h]
      exact this
  have fin : C (.val (bestDD min (.int (((dI cuts).length : Nat) : Int)) (((ws.filter fun w => !w.1 && decide (f ≤ w.2.2)).map fun w => w.2.1).map fun (n : Nat) => (n : Int)))) := by
    rw [ints_len, bestDD_min]
    · exact hC
    · intro x hx
      obtain ⟨w, hm, rfl⟩ := List.mem_map.mp hx
      exact Nat.le_of_lt (hw w (List.mem_filter.mp hm).1)
  have e1 : ((ws.filter fun w => !w.1 && decide (f ≤ w.2.2)).map fun w => D.int ((w.2.1 : Nat) : Int)) = (((ws.filter fun w => !w.1 && decide (f ≤ w.2.2)).map fun w => w.2.1).map fun (n : Nat) => (n : Int)).map D.int := by
    rw [List.map_map, List.map_map]; rfl
  rcases hd with rfl | rfl <;> rcases he with rfl | rfl
  all_goals exact key _ ⟨_, e1, fin⟩
def bndL (m n : Nat) (ws : List Wo) : List (Nat × Nat) := (List.range' 0 n).map fun f => (loN ws f, hiN m ws f)
def bndD (b : Nat × Nat) : D := .tup [.int ((b.1 : Nat) : Int), .int ((b.2 : Nat) : Int)]
def g_bounds : FA := fun ds C => ∃ d cuts e fills k ws, ds = [d, e, k] ∧ Sq d cuts ∧ Sq e fills ∧ Ws k ws ∧ NoClash ws ∧ ws.length ≤ 1000 ∧ fills.length ≤ 900 ∧ InB cuts.length fills.length ws ∧ ∀ p, C (.own p ((bndL cuts.length fills.length ws).map bndD))
end Pl
namespace Pl
open PySem PySem.Spec PyProof.Rows L2
theorem str_ext {a b : Str} (h : a.cps.toList = b.cps.toList) : a = b := by
  obtain ⟨x⟩ := a
  obtain ⟨y⟩ := b
  have : x = y := Array.toList_inj.mp h
  rw [this]
theorem lit_c : ("c" : Str) = ⟨#[99]⟩ := by decide +kernel
theorem lit_e : ("" : Str) = ⟨#[]⟩ := by decide +kernel
theorem mul_c (n : Nat) : Txt.mul ("c" : Str) ((n : Nat) : Int) = txt (List.replicate n true) := by
  refine str_ext ?_
  rw [lit_c, mul_one_list]
  show List.replicate (Int.toNat (n : Int)) 99 = (List.replicate n true).map sg
  rw [List.map_replicate, Int.toNat_natCast]; rfl
theorem join_txt : ∀ os : List (List Bool), Txt.join ("" : Str) (os.map txt) = txt os.flatten := by
  intro os
  rw [TL.join_eq]
  induction os with
  | nil => rfl
  | cons o os ih =>
    cases os with
    | nil =>
      show txt o = txt (o ++ [])
      rw [List.append_nil]
    | cons p os =>
      show txt o ++ ("" : Str) ++ Str.join "" ((p :: os).map txt) = txt (o ++ (p :: os).flatten)
      rw [ih, ← txt_append]
      refine str_ext ?_
      rw [lit_e]
      show ((txt o).cps ++ #[] ++ (txt (p :: os).flatten).cps).toList = ((txt o).cps ++ (txt (p :: os).flatten).cps).toList
      simp
end Pl
namespace Pl
open PySem PySem.Spec PyProof.Rows L2
theorem downD_succ (k : Nat) : downD (k + 1) = .int (k : Int) :: downD k := by
  unfold downD
  rw [List.range_succ_eq_map, List.map_cons, List.map_map]
  congr 1
  · show D.int (((k + 1 : Nat) : Int) - 1 - ((0 : Nat) : Int)) = .int (k : Int)
    congr 1; omega
  · apply List.map_congr_left
    intro i _
    show D.int (((k + 1 : Nat) : Int) - 1 - ((i + 1 : Nat) : Int)) = .int ((k : Int) - 1 - (i : Int))
    congr 1; omega
def g_ways_ahead : FA := fun ds C => ∃ row lo hi, ds = [.lst (dI row), .int ((lo : Nat) : Int), .int ((hi : Nat) : Int)] ∧ row.length ≤ 1000 ∧ C (.val (.lst (dI (wayL lo hi 0 row))))
theorem rd_ways_ahead : ∀ ds C, ds.length = 3 → g_ways_ahead ds C → T_ways_ahead { nx := fun _ => C (.val .non), rt := fun c _ => C c } (startA N_ways_ahead ds) := by
  rintro ds C - ⟨row, lo, hi, rfl, hl, hC⟩
  refine ⟨by show (0 : Nat) ≤ sizeLine; decide, fun b => ?_⟩
  refine ⟨row.length, by show (((dI row).length : Nat) : Int) = _; rw [ints_len], by omega, ?_⟩
  refine for_inv (fun ds ρ => ∃ (k : Nat) (w : Option Cell), ds = downD k ∧ k ≤ row.length ∧ ρ = [some (.val (.lst (dI row))), some (.val (.int (lo : Int))), some (.val (.int (hi : Int))), some (.own b (dI (wayL lo hi k (row.drop k)).reverse)), some (.val (.int ((wayL lo hi k (row.drop k)).headD 0))), w]) (fun x r ρ K hK hI => ?_) (fun ρ hI => ?_) _ _ ⟨row.length, none, rfl, Nat.le_refl _, by rw [List.drop_length]; rfl⟩
  · obtain ⟨k, w, e1, hk, rfl⟩ := hI
    cases k with
    | zero => cases e1
    | succ k =>
      rw [downD_succ] at e1
      cases e1
      have hk' : k < row.length := by omega
      have ed : row.drop k = row.getD k 0 :: row.drop (k + 1) := by
        rw [List.drop_eq_getElem_cons hk', List.getD_eq_getElem?_getD, List.getElem?_eq_getElem hk']; rfl
      have ew : wayL lo hi k (row.drop k) = ((if lo ≤ k ∧ k ≤ hi then row.getD k 0 else 0) + (wayL lo hi (k + 1) (row.drop (k + 1))).headD 0) :: wayL lo hi (k + 1) (row.drop (k + 1)) := by
        rw [ed]; rfl
      have hz : (dI (wayL lo hi (k + 1) (row.drop (k + 1))).reverse).length < sizeLine := small1000 (by rw [ints_len, List.length_reverse, wayL_len, List.length_drop]; omega)
      have fin : ∀ v : Int, v = (if lo ≤ k ∧ k ≤ hi then row.getD k 0 else 0) + (wayL lo hi (k + 1) (row.drop (k + 1))).headD 0 → K [some (.val (.lst (dI row))), some (.val (.int (lo : Int))), some (.val (.int (hi : Int))), some (.own b (dI (wayL lo hi (k + 1) (row.drop (k + 1))).reverse ++ [.int v])), some (.val (.int v)), some (.val (.int (k : Int)))] := by
        intro v hv
        refine hK _ ⟨k, some (.val (.int (k : Int))), rfl, by omega, ?_⟩
        rw [ew, ← hv, List.reverse_cons]
        show _ = [some (Cell.val (.lst (dI row))), some (.val (.int (lo : Int))), some (.val (.int (hi : Int))), some (.own b (dI ((wayL lo hi (k + 1) (row.drop (k + 1))).reverse ++ [v]))), some (.val (.int v)), some (.val (.int (k : Int)))]
        unfold dI; rw [List.map_append]; rfl
      refine ifB (fun h => ?_) (fun h => ?_)
      · rw [bl_le] at h
        refine ifB (fun h' => ?_) (fun h' => ?_)
        · rw [bl_le] at h'
          refine ⟨_, rfl, _, atI_get hk', _, rfl, hz, fin _ ?_⟩
          rw [if_pos ⟨dT h, dT h'⟩]; exact Int.add_comm _ _
        · rw [bl_le] at h'
          refine ⟨_, rfl, hz, fin _ ?_⟩
          rw [if_neg (fun z => dF h' z.2)]; omega
      · rw [bl_le] at h
        refine ⟨_, rfl, hz, fin _ ?_⟩
        rw [if_neg (fun z => dF h z.1)]; omega
  · obtain ⟨k, w, e1, hk, rfl⟩ := hI
    cases k with
    | succ k => rw [downD_succ] at e1; cases e1
    | zero =>
      show C (.val (.lst (dI (wayL lo hi 0 (row.drop 0)).reverse).reverse))
      unfold dI
      rw [← List.map_reverse, List.reverse_reverse]
      exact hC
def stackL (m : Nat) : List (Nat × Nat) → List (List Int)
  | [] => [baseL m]
  | b :: bs => stackL m bs ++ [rowsL m (b :: bs)]
theorem stack_last (m : Nat) : ∀ bs : List (Nat × Nat), ∃ r, stackL m bs = r ++ [rowsL m bs]
  | [] => ⟨[], rfl⟩
  | b :: bs => ⟨stackL m bs, rfl⟩
theorem stack_len (m : Nat) : ∀ bs : List (Nat × Nat), (stackL m bs).length = bs.length + 1
  | [] => rfl
  | b :: bs => by simp [stackL, stack_len m bs]
def lD (l : List Int) : D := .lst (dI l)
def g_ways_on : FA := fun ds C => ∃ d cuts e fills k ws, ds = [d, e, k] ∧ Sq d cuts ∧ Sq e fills ∧ Ws k ws ∧ NoClash ws ∧ ws.length ≤ 1000 ∧ cuts.length ≤ 900 ∧ fills.length ≤ 900 ∧ InB cuts.length fills.length ws ∧ C (.val (.lst ((stackL cuts.length (bndL cuts.length fills.length ws)).reverse.map lD)))
end Pl
namespace Pl
open PySem PySem.Spec PyProof.Rows L2
structure Bk (d : D) (cuts : List Int) (e : D) (fills : List Int) (k : D) (ws : List Wo) : Prop where
  c : Sq d cuts
  f : Sq e fills
  w : Ws k ws
  no : NoClash ws
  l : ws.length ≤ 1000
  cl : cuts.length ≤ 400
  fl : fills.length ≤ 400
  b : InB cuts.length fills.length ws
theorem bnd_len (m n : Nat) (ws : List Wo) : (bndL m n ws).length = n := by simp [bndL]
theorem hiL_len (m n : Nat) (ws : List Wo) : (hiL m n ws).length = n := by simp [hiL]
theorem loL_len (n : Nat) (ws : List Wo) : (loL n ws).length = n := by simp [loL]
def stL (l cuts fills : List Int) (o : List Bool) : List Int := behindL l (almL cuts fills 0 0 o)
def loSt (l cuts fills : List Int) (ws : List Wo) : List Int := stL l cuts fills (ordW 0 (hiL cuts.length fills.length ws) cuts.length)
def hiSt (l cuts fills : List Int) (ws : List Wo) : List Int := stL l cuts fills (ordW 0 (loL fills.length ws) cuts.length)
def sureL (k : Nat) : List Int → List Int → List Int
  | x :: a, y :: b => if x = y then (k : Int) :: sureL (k + 1) a b else sureL (k + 1) a b
  | _, _ => []
end Pl
namespace Pl
open PySem PySem.Spec PyProof.Rows L2
def g__law_almanac : FA := g_almanac_of
theorem pop0 {l : List Int} {k : Nat} (h : k < l.length) : (dI (l.drop k))[0]? = some (.int (l.getD k 0)) ∧ (dI (l.drop k)).eraseIdx 0 = dI (l.drop (k + 1)) := by
  have e : l.drop k = l.getD k 0 :: l.drop (k + 1) := by
    rw [List.drop_eq_getElem_cons h, List.getD_eq_getElem?_getD, List.getElem?_eq_getElem h]; rfl
  rw [e]
  exact ⟨rfl, rfl⟩
theorem rd__law_almanac : ∀ ds C, ds.length = 3 → g__law_almanac ds C → T__law_almanac { nx := fun _ => C (.val .non), rt := fun c _ => C c } (startA N__law_almanac ds) := by
  rintro ds C - ⟨d, cuts, e, fills, o, rfl, hd, he, hc, hf, hl, hC⟩
  have h2 : (2 : Nat) ≤ sizeLine := by decide
  have main : ∀ p q b : Addr, forW (hName 6) (pAppend 5 (pIf (pTest (pOp fEq (pVar 6) (pC (.str "c")))) (pTup (pCons (pC (.str "cut")) (pCons (pPop 3 (pC (.int 0))) pNil))) (pTup (pCons (pC (.str "fill")) (pCons (pPop 4 (pC (.int 0))) pNil))))) { nx := fun ρ => pRet (pMove 5) { nx := fun _ => C (.val .non), rt := fun c _ => C c } ρ, rt := fun c _ => C c } (signsD (txt o)) [some (.val d), some (.val e), some (.val (.str (txt o))), some (.own p (dI cuts)), some (.own q (dI fills)), some (.own b []), none] := by
    intro p q b
    rw [signs_txt]
    refine for_inv (fun ds ρ => ∃ (done rest : List Bool) (w : Option Cell), ds = rest.map sgD ∧ o = done ++ rest ∧ ρ = [some (.val d), some (.val e), some (.val (.str (txt o))), some (.own p (dI (cuts.drop (cT done)))), some (.own q (dI (fills.drop (cF done)))), some (.own b (windsD (almL cuts fills 0 0 done))), w]) (fun x r ρ K hK hI => ?_) (fun ρ hI => ?_) _ _ ⟨[], o, none, rfl, rfl, rfl⟩
    · obtain ⟨done, rest, w, e1, e2, rfl⟩ := hI
      cases rest with
      | nil => cases e1
      | cons s rest =>
        cases e1
        have hT : cT done + cT (s :: rest) = cT o := by rw [e2, cT_append]
        have hF : cF done + cF (s :: rest) = cF o := by rw [e2, cF_append]
        have hlen : done.length + (rest.length + 1) = o.length := by rw [e2]; simp
        have hz : (windsD (almL cuts fills 0 0 done)).length < sizeLine := small1000 (by rw [windsD_len, almL_len]; omega)
        refine ⟨sh_sg s, sh_c, ?_⟩
        cases s with
        | true =>
          have hT : cT done + (cT rest + 1) = cT o := hT
          obtain ⟨g1, g2⟩ := pop0 (l := cuts) (k := cT done) (by omega)
          refine ifT (eqv_sgc true) ⟨_, 0, _, rfl, rfl, by omega, g1, h2, _, rfl, hz, ?_⟩
          refine hK _ ⟨done ++ [true], rest, some (.val (sgD true)), rfl, by rw [e2]; simp, ?_⟩
          rw [almL_snocT, ← windsD_append, cT_append, cF_append, Nat.zero_add, g2]
          rfl
        | false =>
          have hF : cF done + (cF rest + 1) = cF o := hF
          obtain ⟨g1, g2⟩ := pop0 (l := fills) (k := cF done) (by omega)
          refine ifF (eqv_sgc false) ⟨_, 0, _, rfl, rfl, by omega, g1, h2, _, rfl, hz, ?_⟩
          refine hK _ ⟨done ++ [false], rest, some (.val (sgD false)), rfl, by rw [e2]; simp, ?_⟩
          rw [almL_snocF, ← windsD_append, cT_append, cF_append, Nat.zero_add, g2]
          rfl
    · obtain ⟨done, rest, w, e1, e2, rfl⟩ := hI
      cases rest with
      | cons s rest => cases e1
      | nil =>
        rw [List.append_nil] at e2
        subst e2
        exact hC b
  have h0 : (0 : Nat) ≤ sizeLine := Nat.zero_le _
  rcases hd with rfl | rfl <;> rcases he with rfl | rfl <;> exact fun p q => ⟨h0, fun b => main p q b⟩
def Pos0 (l : List Int) : Prop := ∀ x ∈ l, 0 ≤ x
theorem Pos0.snoc {l : List Int} {x : Int} (h : Pos0 l) (hx : 0 ≤ x) : Pos0 (l ++ [x]) := fun y hy => by
  rcases List.mem_append.mp hy with hy | hy
  · exact h y hy
  · rw [List.mem_singleton.mp hy]; exact hx
theorem Pos0.take {l : List Int} (h : Pos0 l) (n : Nat) : Pos0 (l.take n) := fun y hy => h y (List.mem_of_mem_take hy)
theorem dI_snocB (l : List Int) (x : Int) : dI l ++ [.int x] = dI (l ++ [x]) := by unfold dI; rw [List.map_append]; rfl
theorem dI_take (l : List Int) (n : Nat) : (dI l).take n = dI (l.take n) := List.map_take.symm
def g__law_books : FB := fun xs ds C => ∃ n size, n ≤ 1000000000 ∧ Bx n xs ∧ ds = [.int ((size : Nat) : Int)] ∧ size ≤ 60 ∧ ∀ cuts fills zs, cuts.length ≤ size → fills.length ≤ size → Pos0 cuts → Pos0 fills → Bx (n + 5000) zs → C (.val (.tup [.lst (dI cuts), .lst (dI fills)])) zs
theorem books_one {a p q : Addr} {n size : Nat} (hn : n ≤ 1000001000) (hs : size ≤ 60) {way : Int} {w5 w6 : Option Cell} {zs : List D} (hB : Bx n zs) (first : Bool) {cs fs : List Int} (hf : (if first = true then cs else fs) = []) {P : PEnds}
    (hP : ∀ (l : List Int) (zs : List D) (w6 : Option Cell), l.length ≤ size → Pos0 l → Bx (n + 400) zs → P.nx [some (.own a zs), some (.val (.int (size : Int))), some (.own p (dI (if first = true then l else cs))), some (.own q (dI (if first = true then fs else l))), some (.val (.int way)), w5, w6, some (.val (.adr (if first = true then p else q)))]) :
    pFor (jRng1 (pCons (pFrz (pCallB 0 2 (g_take 100000000000000) (pCons (pOp fAdd (pVar 1) (pC (.int 1))) pNil))) pNil)) (hName 6) (pAppendA 7 [2, 3] (pIf (pTest (pOp fLt (pVar 4) (pC (.int 3)))) (pFrz (pCallB 0 1 g__law_slope pNil)) (pFrz (pCallB 0 2 (g_take 100000000000000) (pCons (pC (.int 3)) pNil))))) P [some (.own a zs), some (.val (.int (size : Int))), some (.own p (dI cs)), some (.own q (dI fs)), some (.val (.int way)), w5, w6, some (.val (.adr (if first = true then p else q)))] := by
  refine ⟨zs, rfl, rfl, n, ((size : Nat) : Int) + 1, by omega, hB, rfl, by omega, by omega, fun m zs1 m1 m2 hz1 => ⟨by omega, by omega, ?_⟩⟩
  refine for_inv (fun ds ρ => ∃ (l : List Int) (zs : List D) (w6 : Option Cell), (ds.length : Int) + l.length = m ∧ Pos0 l ∧ Bx (n + 2 + 4 * l.length) zs ∧ ρ = [some (.own a zs), some (.val (.int (size : Int))), some (.own p (dI (if first = true then l else cs))), some (.own q (dI (if first = true then fs else l))), some (.val (.int way)), w5, w6, some (.val (.adr (if first = true then p else q)))]) (fun x r ρ K hK hI => ?_) (fun ρ hI => ?_) _ _ ⟨[], zs1, w6, by simp [rangeD]; omega, fun x h => by simp at h, hz1, ?_⟩
  · obtain ⟨l, zs, w6, e1, hp, hz, rfl⟩ := hI
    have e1 : ((r.length + 1 : Nat) : Int) + l.length = m := e1
    have hzl : (dI l).length < sizeLine := small1000 (by rw [ints_len]; omega)
    have fin : ∀ (y : Int) (zs2 : List D), 0 ≤ y → Bx (n + 2 + 4 * l.length + 4) zs2 → ∃ (j : Nat) (xs1 : List D), j ∈ [2, 3] ∧ ([some (.own a zs2), some (.val (.int (size : Int))), some (.own p (dI (if first = true then l else cs))), some (.own q (dI (if first = true then fs else l))), some (.val (.int way)), w5, some (.val x), some (.val (.adr (if first = true then p else q)))] : Ro)[j]? = some (some (.own (if first = true then p else q) xs1)) ∧ xs1.length < sizeLine ∧ K (([some (.own a zs2), some (.val (.int (size : Int))), some (.own p (dI (if first = true then l else cs))), some (.own q (dI (if first = true then fs else l))), some (.val (.int way)), w5, some (.val x), some (.val (.adr (if first = true then p else q)))] : Ro).set j (some (.own (if first = true then p else q) (xs1 ++ [.int y])))) := by
      intro y zs2 hy hz2
      cases first with
      | true => exact ⟨2, dI l, by simp, rfl, hzl, hK _ ⟨l ++ [y], zs2, some (.val x), by simp; omega, hp.snoc hy, hz2.mono (by simp; omega), by rw [dI_snocB]; rfl⟩⟩
      | false => exact ⟨3, dI l, by simp, rfl, hzl, hK _ ⟨l ++ [y], zs2, some (.val x), by simp; omega, hp.snoc hy, hz2.mono (by simp; omega), by rw [dI_snocB]; rfl⟩⟩
    have there : ∃ j ∈ [2, 3], ∃ xs, ([some (.own a zs), some (.val (.int (size : Int))), some (.own p (dI (if first = true then l else cs))), some (.own q (dI (if first = true then fs else l))), some (.val (.int way)), w5, some (.val x), some (.val (.adr (if first = true then p else q)))] : Ro)[j]? = some (some (.own (if first = true then p else q) xs)) := by
      cases first with
      | true => exact ⟨2, by simp, _, rfl⟩
      | false => exact ⟨3, by simp, _, rfl⟩
    refine ⟨_, rfl, there, ifB (fun h => ?_) (fun h => ?_)⟩
    · exact ⟨zs, rfl, rfl, _, by omega, hz, rfl, fun s zs2 s0 _ hz2 => fin s zs2 s0 hz2⟩
    · exact ⟨zs, rfl, rfl, _, 3, by omega, hz, rfl, by decide, by decide, fun s zs2 s0 _ hz2 => fin s zs2 s0 (hz2.mono (by omega))⟩
  · obtain ⟨l, zs, w6, e1, hp, hz, rfl⟩ := hI
    have e1 : (0 : Int) + l.length = m := e1
    exact hP l zs w6 (by omega) hp (hz.mono (by omega))
  · cases first with
    | true => have hf : cs = [] := hf; subst hf; rfl
    | false => have hf : fs = [] := hf; subst hf; rfl
end Pl
namespace Pl
open PySem PySem.Spec PyProof.Rows L2
theorem rd__law_books : ∀ a xs ds C, ds.length + 1 = 2 → g__law_books xs ds C → T__law_books (g_take 100000000000000) g__law_slope { nx := fun ρ => ∃ ys, ρ[0]? = some (some (.own a ys)) ∧ C (.val .non) ys, rt := fun c ρ => ∃ ys, ρ[0]? = some (some (.own a ys)) ∧ C c ys } (startB N__law_books a xs ds) := by
  rintro a xs ds C - ⟨n, size, hn, hB, rfl, hs, hC⟩
  have h0 : (0 : Nat) ≤ sizeLine := Nat.zero_le _
  have h2 : (2 : Nat) ≤ sizeLine := by decide
  refine ⟨h0, fun p => ⟨h0, fun q => ?_⟩⟩
  refine ⟨xs, rfl, rfl, n, 4, by omega, hB, rfl, by decide, by decide, fun way zs1 a1 a2 hz1 => ⟨sh_int _, sh_int _, ifB (fun h => ?_) (fun h => ?_)⟩⟩
  · refine ⟨zs1, rfl, rfl, _, 60, by omega, hz1, rfl, by decide, by decide, fun sl zs2 b1 b2 hz2 => ?_⟩
    refine ⟨.inl ⟨by decide, by decide⟩, zs2, rfl, rfl, _, 2 * ((size : Nat) : Int) + 1, by omega, hz2, rfl, by omega, by omega, fun m zs3 m1 m2 hz3 => ⟨by omega, by omega, ?_⟩⟩
    refine for_inv (fun ds ρ => (∀ d ∈ ds, ∃ t : Int, d = .int t ∧ 0 ≤ t ∧ t ≤ 1000) ∧ ∃ (cs fs : List Int) (s : Int) (zs : List D) (w6 w7 : Option Cell) (k : Nat), k + ds.length ≤ 130 ∧ cs.length ≤ k ∧ fs.length ≤ k ∧ Pos0 cs ∧ Pos0 fs ∧ 0 ≤ s ∧ Bx (n + 10 + 6 * k) zs ∧ ρ = [some (.own a zs), some (.val (.int (size : Int))), some (.own p (dI cs)), some (.own q (dI fs)), some (.val (.int way)), some (.val (.int s)), w6, w7]) (fun x r ρ K hK hI => ?_) (fun ρ hI => ?_) _ _ ⟨fun d hd => ?_, [], [], 40 + sl, zs3, none, none, 0, by simp [rangeD]; omega, by simp, by simp, fun x h => by simp at h, fun x h => by simp at h, by omega, hz3.mono (by omega), rfl⟩
    · obtain ⟨hd, cs, fs, s, zs, w6, w7, k, hk, hc, hf, pc, pf, hs0, hz, rfl⟩ := hI
      obtain ⟨t, rfl, t0, t1⟩ := hd x (by simp)
      have hk : k + (r.length + 1) ≤ 130 := hk
      refine ⟨p, dI cs, rfl, q, dI fs, rfl, h2, zs, rfl, rfl, _, 2, by omega, hz, rfl, by decide, by decide, fun u zs4 u1 u2 hz4 => ?_⟩
      refine ⟨zs4, rfl, rfl, _, 2, by omega, hz4, rfl, by decide, by decide, fun v zs5 v1 v2 hz5 => ?_⟩
      refine ⟨.inl ⟨by show (-(2 ^ 64) : Int) < u; omega, by show u < (2 ^ 64 : Int); omega⟩, by show (0 : Int) < 2; decide, ?_⟩
      have hix : (t + u * v) % 2 = 0 ∨ (t + u * v) % 2 = 1 := by omega
      have fin : ∀ (first : Bool) (zs6 : List D), Bx (n + 10 + 6 * k + 6) zs6 → ∀ y : Int, 0 ≤ y → K [some (.own a zs6), some (.val (.int (size : Int))), some (.own p (dI (if first = true then cs ++ [s] else cs))), some (.own q (dI (if first = true then fs else fs ++ [s]))), some (.val (.int way)), some (.val (.int y)), some (.val (.int t)), some (.val (.adr (if first = true then p else q)))] := by
        intro first zs6 hz6 y hy
        cases first with
        | true => exact hK _ ⟨fun d hd' => hd d (by simp [hd']), cs ++ [s], fs, y, zs6, _, _, k + 1, by omega, by simp; omega, by omega, pc.snoc hs0, pf, hy, hz6.mono (by omega), rfl⟩
        | false => exact hK _ ⟨fun d hd' => hd d (by simp [hd']), cs, fs ++ [s], y, zs6, _, _, k + 1, by omega, by omega, by simp; omega, pc, pf.snoc hs0, hy, hz6.mono (by omega), rfl⟩
      have zc : (dI cs).length < sizeLine := small1000 (by rw [ints_len]; omega)
      have zf : (dI fs).length < sizeLine := small1000 (by rw [ints_len]; omega)
      rcases hix with e | e
      · refine ⟨.adr p, by show atI [D.adr p, .adr q] ((t + u * v) % 2) = _; rw [e]; rfl, ?_⟩
        refine ⟨p, rfl, ⟨2, by simp, _, rfl⟩, 2, dI cs, by simp, rfl, zc, ?_⟩
        refine ⟨zs5, rfl, rfl, _, 9, by omega, hz5, rfl, by decide, by decide, fun y zs6 _ _ hz6 => ?_⟩
        have := fin true zs6 (hz6.mono (by omega)) (max 0 (s - 1 - y)) (by omega)
        rw [if_pos rfl, if_pos rfl, if_pos rfl, ← dI_snocB] at this
        exact this
      · refine ⟨.adr q, by show atI [D.adr p, .adr q] ((t + u * v) % 2) = _; rw [e]; rfl, ?_⟩
        refine ⟨q, rfl, ⟨3, by simp, _, rfl⟩, 3, dI fs, by simp, rfl, zf, ?_⟩
        refine ⟨zs5, rfl, rfl, _, 9, by omega, hz5, rfl, by decide, by decide, fun y zs6 _ _ hz6 => ?_⟩
        have := fin false zs6 (hz6.mono (by omega)) (max 0 (s - 1 - y)) (by omega)
        rw [if_neg (by decide), if_neg (by decide), if_neg (by decide), ← dI_snocB fs] at this
        exact this
    · obtain ⟨hd, cs, fs, s, zs, w6, w7, k, hk, hc, hf, pc, pf, hs0, hz, rfl⟩ := hI
      have e1 : cutD (dI cs) none (some (size : Int)) = dI (cs.take size) := by rw [cutD_to, dI_take]
      have e2 : cutD (dI fs) none (some (size : Int)) = dI (fs.take size) := by rw [cutD_to, dI_take]
      have := hC (cs.take size) (fs.take size) zs (by rw [List.length_take]; omega) (by rw [List.length_take]; omega) (pc.take _) (pf.take _) (hz.mono (by have : k + 0 ≤ 130 := hk; omega))
      rw [← e1, ← e2] at this
      exact ⟨h2, zs, rfl, this⟩
    · unfold rangeD at hd
      obtain ⟨i, hi, rfl⟩ := List.mem_map.mp hd
      have := List.mem_range.mp hi
      exact ⟨_, rfl, by omega, by omega⟩
  · refine ⟨p, [], rfl, q, [], rfl, h2, ?_⟩
    refine books_one (n := n + 2) (first := true) (cs := []) (fs := []) (by omega) hs hz1 rfl fun l zs2 w6 hl hp hz2 => ?_
    refine books_one (n := n + 2 + 400) (first := false) (cs := l) (fs := []) (by omega) hs hz2 rfl fun l2 zs3 w6 hl2 hp2 hz3 => ?_
    exact ⟨h2, zs3, rfl, hC l l2 zs3 hl hl2 hp hp2 (hz3.mono (by omega))⟩
end Pl
namespace Pl
theorem ord_dom {cuts fills : List Int} (hc : Pos0 cuts) (hf : Pos0 fills) (l : List Int) {m : Nat} {as bs : List Nat} (ha : Rise m 0 as) (hb : Rise m 0 bs) (hl : as.length = bs.length) (h : ∀ f x y : Nat, as[f]? = some x → bs[f]? = some y → y ≤ x) : Lq (stL l cuts fills (ordW 0 as m)) (stL l cuts fills (ordW 0 bs m)) := by
  refine dom_le hc hf l _ _ _ (Nat.le_refl _) ⟨?_, ?_, fun j x y h1 h2 => ?_⟩
  · rw [ordW_cT ha, ordW_cT hb]; exact Nat.le_refl _
  · rw [ordW_cF, ordW_cF, hl]; exact Nat.le_refl _
  · rw [ordW_ahead ha] at h1
    rw [ordW_ahead hb] at h2
    exact h j x y h1 h2
section
variable {cuts fills l : List Int} {ws vs : List Wo}
structure Has (cuts fills : List Int) (o : List Bool) (ws : List Wo) : Prop where
  t : cT o = cuts.length
  f : cF o = fills.length
  b : InB cuts.length fills.length ws
  h : ∀ w ∈ ws, hasW (aheadL 0 o) w = true
theorem Has.rise {o : List Bool} (H : Has cuts fills o ws) : Rise cuts.length 0 (aheadL 0 o) := by
  have := rise_ahead o 0
  rw [Nat.zero_add, H.t] at this
  exact this
theorem Has.len {o : List Bool} (H : Has cuts fills o ws) : (aheadL 0 o).length = fills.length := by rw [aheadL_len, H.f]
theorem Has.no {o : List Bool} (H : Has cuts fills o ws) : NoClash ws := fun u hu v hv => has_noclash H.rise (by rw [H.len]; exact (H.b u hu).2) (by rw [H.len]; exact (H.b v hv).2) (H.h u hu) (H.h v hv)
theorem Has.btw {o : List Bool} (H : Has cuts fills o ws) {f x : Nat} (hx : (aheadL 0 o)[f]? = some x) : loN ws f ≤ x ∧ x ≤ hiN cuts.length ws f := has_between H.rise (by rw [H.len]; exact H.b) H.h hx
theorem Has.ord {o : List Bool} (H : Has cuts fills o ws) : ordW 0 (aheadL 0 o) cuts.length = o := by
  have := ord_of o 0
  rw [Nat.zero_add, H.t] at this
  exact this
theorem Has.lo {o : List Bool} (H : Has cuts fills o ws) (hc : Pos0 cuts) (hf : Pos0 fills) : Lq (loSt l cuts fills ws) (stL l cuts fills o) := by
  rw [← H.ord]
  refine ord_dom hc hf l (hiL_rise _ _ _) H.rise (by rw [hiL_len, H.len]) fun f x y h1 h2 => ?_
  rw [(get_hi h1).1]
  exact (H.btw h2).2
theorem Has.hi {o : List Bool} (H : Has cuts fills o ws) (hc : Pos0 cuts) (hf : Pos0 fills) : Lq (stL l cuts fills o) (hiSt l cuts fills ws) := by
  rw [← H.ord]
  refine ord_dom hc hf l H.rise (loL_rise H.b) (by rw [loL_len, H.len]) fun f x y h1 h2 => ?_
  rw [(get_lo h2).1]
  exact (H.btw h1).1
theorem Has.sub {o : List Bool} (H : Has cuts fills o vs) (h : ∀ w ∈ ws, w ∈ vs) : Has cuts fills o ws := ⟨H.t, H.f, fun w hw => H.b w (h w hw), fun w hw => H.h w (h w hw)⟩
end
end Pl
namespace Pl
open PySem PySem.Spec PyProof.Rows L2
def allO : Nat → Nat → List (List Bool)
  | 0, f => [List.replicate f false]
  | c + 1, 0 => [List.replicate (c + 1) true]
  | c + 1, f + 1 => (allO c (f + 1)).map (true :: ·) ++ (allO (c + 1) f).map (false :: ·)
termination_by c f => c + f
theorem ct_repF : ∀ f, cT (List.replicate f false) = 0 ∧ cF (List.replicate f false) = f
  | 0 => ⟨rfl, rfl⟩
  | f + 1 => by
    obtain ⟨h1, h2⟩ := ct_repF f
    rw [List.replicate_succ]
    exact ⟨h1, by show cF (List.replicate f false) + 1 = f + 1; rw [h2]⟩
theorem ct_repT : ∀ c, cT (List.replicate c true) = c ∧ cF (List.replicate c true) = 0
  | 0 => ⟨rfl, rfl⟩
  | c + 1 => by
    obtain ⟨h1, h2⟩ := ct_repT c
    rw [List.replicate_succ]
    exact ⟨by show cT (List.replicate c true) + 1 = c + 1; rw [h1], h2⟩
theorem only_F : ∀ {o : List Bool}, cT o = 0 → o = List.replicate (cF o) false
  | [], _ => rfl
  | true :: o, h => by exact absurd (show cT o + 1 = 0 from h) (by omega)
  | false :: o, h => by
    show false :: o = List.replicate (cF o + 1) false
    rw [List.replicate_succ, ← only_F (o := o) h]
theorem only_T : ∀ {o : List Bool}, cF o = 0 → o = List.replicate (cT o) true
  | [], _ => rfl
  | false :: o, h => by exact absurd (show cF o + 1 = 0 from h) (by omega)
  | true :: o, h => by
    show true :: o = List.replicate (cT o + 1) true
    rw [List.replicate_succ, ← only_T (o := o) h]
theorem mem_allO : ∀ (n c f : Nat), c + f ≤ n → ∀ o, o ∈ allO c f ↔ cT o = c ∧ cF o = f
  | n, 0, f, _, o => by
    rw [allO, List.mem_singleton]
    constructor
    · rintro rfl; exact ct_repF f
    · rintro ⟨h1, h2⟩; rw [← h2]; exact only_F h1
  | n, c + 1, 0, _, o => by
    rw [allO, List.mem_singleton]
    constructor
    · rintro rfl; exact ct_repT (c + 1)
    · rintro ⟨h1, h2⟩; rw [← h1]; exact only_T h2
  | n + 1, c + 1, f + 1, h, o => by
    rw [allO, List.mem_append, List.mem_map, List.mem_map]
    constructor
    · rintro (⟨r, hr, rfl⟩ | ⟨r, hr, rfl⟩)
      · obtain ⟨h1, h2⟩ := (mem_allO n c (f + 1) (by omega) r).mp hr
        exact ⟨by show cT r + 1 = c + 1; rw [h1], h2⟩
      · obtain ⟨h1, h2⟩ := (mem_allO n (c + 1) f (by omega) r).mp hr
        exact ⟨h1, by show cF r + 1 = f + 1; rw [h2]⟩
    · rintro ⟨h1, h2⟩
      cases o with
      | nil => exact absurd (show (0 : Nat) = c + 1 from h1) (by omega)
      | cons b r =>
        cases b with
        | true => exact .inl ⟨r, (mem_allO n c (f + 1) (by omega) r).mpr ⟨Nat.succ.inj h1, h2⟩, rfl⟩
        | false => exact .inr ⟨r, (mem_allO n (c + 1) f (by omega) r).mpr ⟨h1, Nat.succ.inj h2⟩, rfl⟩
  | 0, c + 1, f + 1, h, _ => by omega
theorem getD_hiL {m n : Nat} {ws : List Wo} {f : Nat} (h : f < n) : (hiL m n ws).getD f 0 = hiN m ws f := by
  unfold hiL
  rw [List.getD_eq_getElem?_getD, List.getElem?_map, List.getElem?_range' h]
  simp
theorem getD_loL {n : Nat} {ws : List Wo} {f : Nat} (h : f < n) : (loL n ws).getD f 0 = loN ws f := by
  unfold loL
  rw [List.getD_eq_getElem?_getD, List.getElem?_map, List.getElem?_range' h]
  simp
section
variable {cuts fills : List Int} {ws : List Wo}
theorem Has.low {o : List Bool} (H : Has cuts fills o ws) : Has cuts fills (ordW 0 (hiL cuts.length fills.length ws) cuts.length) ws := by
  have hr := hiL_rise cuts.length fills.length ws
  refine ⟨by rw [ordW_cT hr]; rfl, by rw [ordW_cF, hiL_len], H.b, fun w hw => ?_⟩
  rw [ordW_ahead hr]
  unfold hasW
  have hb := H.b w hw
  rw [getD_hiL hb.2]
  obtain ⟨k, c, f⟩ := w
  cases k with
  | true =>
    have : c < hiN cuts.length ws f := hi_ge.mpr ⟨hb.1, fun v hv h1 h2 => by
      have := H.no (true, c, f) hw v hv
      obtain ⟨k', c', f'⟩ := v
      have h1 : k' = false := h1
      subst h1
      have h2 : f ≤ f' := h2
      have : (decide (c' ≤ c) && decide (f ≤ f')) = false := this
      show c + 1 ≤ c'
      rw [decide_eq_true h2, Bool.and_true] at this
      have := of_decide_eq_false this
      omega⟩
    show (true == decide (c < hiN cuts.length ws f)) = true
    rw [decide_eq_true this]; rfl
  | false =>
    have : hiN cuts.length ws f ≤ c := (hi_ge.mp (Nat.le_refl _)).2 (false, c, f) hw rfl (Nat.le_refl _)
    show (false == decide (c < hiN cuts.length ws f)) = true
    rw [decide_eq_false (by omega)]; rfl
theorem Has.top {o : List Bool} (H : Has cuts fills o ws) : Has cuts fills (ordW 0 (loL fills.length ws) cuts.length) ws := by
  have hr := loL_rise H.b
  refine ⟨by rw [ordW_cT hr]; rfl, by rw [ordW_cF, loL_len], H.b, fun w hw => ?_⟩
  rw [ordW_ahead hr]
  unfold hasW
  have hb := H.b w hw
  rw [getD_loL hb.2]
  obtain ⟨k, c, f⟩ := w
  cases k with
  | true =>
    have : c + 1 ≤ loN ws f := lo_le.mp (Nat.le_refl _) (true, c, f) hw rfl (Nat.le_refl _)
    show (true == decide (c < loN ws f)) = true
    rw [decide_eq_true (by omega)]; rfl
  | false =>
    have : loN ws f ≤ c := lo_le.mpr fun v hv h1 h2 => by
      have := H.no (false, c, f) hw v hv
      obtain ⟨k', c', f'⟩ := v
      have h1 : k' = true := h1
      subst h1
      have h2 : f' ≤ f := h2
      have : (decide (c ≤ c') && decide (f' ≤ f)) = false := this
      show c' + 1 ≤ c
      rw [decide_eq_true h2, Bool.and_true] at this
      have := of_decide_eq_false this
      omega
    show (false == decide (c < loN ws f)) = true
    rw [decide_eq_false (by omega)]; rfl
end
end Pl
namespace Pl
open PySem PySem.Spec PyProof.Rows L2
abbrev EA (C : Cell → Prop) : PEnds := { nx := fun _ => C (.val .non), rt := fun c _ => C c }
def g_is_number : FA := fun ds C => ∃ d, ds = [d] ∧ notScr d (C (.val (.bl (d.isInt && !d.isBl))))
theorem rd_is_number : ∀ ds C, ds.length = 1 → g_is_number ds C → T_is_number (EA C) (startA N_is_number ds) := by
  rintro ds C - ⟨d, rfl, hC⟩
  cases d with
  | scr ns => exact hC.elim
  | adr a => exact hC.elim
  | exc _ _ => exact hC.elim
  | _ => exact hC
theorem eqv_word (a b : Bool) : (D.str (wordS a)).eqv (.str (wordS b)) = (a == b) := by cases a <;> cases b <;> decide +kernel
end Pl
namespace Pl
open PySem PySem.Spec PyProof.Rows L2
abbrev EB (a : Addr) (C : Cell → List D → Prop) : PEnds := { nx := fun ρ => ∃ ys, ρ[0]? = some (some (.own a ys)) ∧ C (.val .non) ys, rt := fun c ρ => ∃ ys, ρ[0]? = some (some (.own a ys)) ∧ C c ys }
theorem sh_nil : (D.lst []).sh := by unfold D.sh; decide +kernel
end Pl
namespace Pl
open PySem PySem.Spec PyProof.Rows L2
def fs : List Wd → Int → Option Bool
  | [], _ => none
  | w :: ws, t => if w.2 ≤ t then some w.1 else fs ws t
theorem fs_pos {w : Wd} {ws : List Wd} {t : Int} (h : w.2 ≤ t) : fs (w :: ws) t = some w.1 := if_pos h
theorem fs_neg {w : Wd} {ws : List Wd} {t : Int} (h : ¬ w.2 ≤ t) : fs (w :: ws) t = fs ws t := if_neg h
def gen1 (t : Int) : List Wd → List Wd
  | [] => []
  | w :: ws => if w.2 < t then w :: gen1 w.2 ws else gen1 t ws
def genL : List Wd → List Wd
  | [] => []
  | w :: ws => w :: gen1 w.2 ws
def sqz1 (w : Wd) : List Wd → List Wd
  | [] => [w]
  | v :: r => if w.1 = v.1 then sqz1 v r else w :: sqz1 v r
def sqz : List Wd → List Wd
  | [] => []
  | w :: r => sqz1 w r
def coreL (ws : List Wd) : List Wd := sqz (genL ws)
theorem gen1_sub {t : Int} : ∀ {ws : List Wd} {w : Wd}, w ∈ gen1 t ws → w ∈ ws
  | [], _, h => h
  | v :: ws, w, h => by
    rw [gen1] at h
    split at h
    · rcases List.mem_cons.mp h with rfl | h
      · simp
      · exact List.mem_cons_of_mem _ (gen1_sub h)
    · exact List.mem_cons_of_mem _ (gen1_sub h)
theorem genL_sub : ∀ {ws : List Wd} {w : Wd}, w ∈ genL ws → w ∈ ws
  | [], _, h => h
  | v :: ws, w, h => by
    rcases List.mem_cons.mp h with rfl | h
    · simp
    · exact List.mem_cons_of_mem _ (gen1_sub h)
theorem sqz1_sub : ∀ {r : List Wd} {w v : Wd}, v ∈ sqz1 w r → v ∈ w :: r
  | [], _, _, h => h
  | u :: r, w, v, h => by
    rw [sqz1] at h
    split at h
    · exact List.mem_cons_of_mem _ (sqz1_sub h)
    · rcases List.mem_cons.mp h with rfl | h
      · simp
      · exact List.mem_cons_of_mem _ (sqz1_sub h)
theorem sqz_sub : ∀ {r : List Wd} {v : Wd}, v ∈ sqz r → v ∈ r
  | [], _, h => h
  | _ :: _, _, h => sqz1_sub h
theorem coreL_sub {ws : List Wd} {w : Wd} (h : w ∈ coreL ws) : w ∈ ws := genL_sub (sqz_sub h)
theorem gen1_len {t : Int} : ∀ (ws : List Wd), (gen1 t ws).length ≤ ws.length
  | [] => Nat.le_refl _
  | w :: ws => by
    rw [gen1]; split
    · have := gen1_len (t := w.2) ws; simp; omega
    · have := gen1_len (t := t) ws; simp; omega
termination_by ws => ws.length
theorem genL_len : ∀ (ws : List Wd), (genL ws).length ≤ ws.length
  | [] => Nat.le_refl _
  | w :: ws => by have := gen1_len (t := w.2) ws; show (gen1 w.2 ws).length + 1 ≤ ws.length + 1; omega
theorem sqz1_len : ∀ (r : List Wd) (w : Wd), (sqz1 w r).length ≤ r.length + 1
  | [], _ => by simp [sqz1]
  | v :: r, w => by
    rw [sqz1]; split
    · have := sqz1_len r v; simp; omega
    · have := sqz1_len r v; simp; omega
theorem coreL_len (ws : List Wd) : (coreL ws).length ≤ ws.length := by
  have := genL_len ws
  unfold coreL
  cases h : genL ws with
  | nil => exact Nat.zero_le _
  | cons w r => rw [h] at this; have := sqz1_len r w; show (sqz1 w r).length ≤ _; simp at *; omega
def Fall1 (t : Int) : List Wd → Prop
  | [] => True
  | w :: r => w.2 < t ∧ Fall1 w.2 r
theorem gen1_fall : ∀ (ws : List Wd) (t : Int), Fall1 t (gen1 t ws)
  | [], _ => trivial
  | w :: ws, t => by
    rw [gen1]; split
    · rename_i h; exact ⟨h, gen1_fall ws w.2⟩
    · exact gen1_fall ws t
theorem fs_gen1 : ∀ (ws : List Wd) {t x : Int}, x < t → fs (gen1 t ws) x = fs ws x
  | [], _, _, _ => rfl
  | w :: ws, t, x, h => by
    rw [gen1]
    by_cases q : w.2 < t
    · rw [if_pos q]
      by_cases p : w.2 ≤ x
      · rw [fs_pos p, fs_pos p]
      · rw [fs_neg p, fs_neg p]; exact fs_gen1 ws (by omega)
    · rw [if_neg q, fs_neg (by omega)]; exact fs_gen1 ws h
theorem fs_genL (ws : List Wd) (x : Int) : fs (genL ws) x = fs ws x := by
  cases ws with
  | nil => rfl
  | cons w ws =>
    show fs (w :: gen1 w.2 ws) x = fs (w :: ws) x
    by_cases p : w.2 ≤ x
    · rw [fs_pos p, fs_pos p]
    · rw [fs_neg p, fs_neg p]; exact fs_gen1 ws (by omega)
theorem fs_sqz1 : ∀ (r : List Wd) (w : Wd) (x : Int), Fall1 w.2 r → fs (sqz1 w r) x = fs (w :: r) x
  | [], _, _, _ => rfl
  | v :: r, w, x, h => by
    rw [sqz1]
    by_cases e : w.1 = v.1
    · rw [if_pos e, fs_sqz1 r v x h.2]
      by_cases p : w.2 ≤ x
      · rw [fs_pos p, fs_pos (by have := h.1; omega), e]
      · rw [fs_neg p]
    · rw [if_neg e]
      by_cases p : w.2 ≤ x
      · rw [fs_pos p, fs_pos p]
      · rw [fs_neg p, fs_neg p, fs_sqz1 r v x h.2]
theorem genL_fall (ws : List Wd) : ∀ w r, genL ws = w :: r → Fall1 w.2 r := by
  intro w r h
  cases ws with
  | nil => cases h
  | cons v ws => cases h; exact gen1_fall ws _
theorem fs_core (ws : List Wd) (x : Int) : fs (coreL ws) x = fs ws x := by
  rw [← fs_genL ws x]
  unfold coreL
  cases h : genL ws with
  | nil => rfl
  | cons w r => exact fs_sqz1 r w x (genL_fall ws w r h)
def Cor1 (w : Wd) : List Wd → Prop
  | [] => True
  | v :: r => v.2 < w.2 ∧ v.1 ≠ w.1 ∧ Cor1 v r
def Cor : List Wd → Prop
  | [] => True
  | w :: r => Cor1 w r
theorem sqz1_cor : ∀ (r : List Wd) (w : Wd), Fall1 w.2 r → ∃ u q, sqz1 w r = u :: q ∧ u.1 = w.1 ∧ u.2 ≤ w.2 ∧ Cor1 u q
  | [], w, _ => ⟨w, [], rfl, rfl, Int.le_refl _, trivial⟩
  | v :: r, w, h => by
    obtain ⟨u, q, e1, e2, e3, e4⟩ := sqz1_cor r v h.2
    have := h.1
    rw [sqz1]
    by_cases e : w.1 = v.1
    · rw [if_pos e]; exact ⟨u, q, e1, by rw [e2, e], by omega, e4⟩
    · rw [if_neg e, e1]
      exact ⟨w, u :: q, rfl, rfl, Int.le_refl _, by omega, fun z => e (by rw [← z, e2]), e4⟩
theorem coreL_cor (ws : List Wd) : Cor (coreL ws) := by
  unfold coreL
  cases h : genL ws with
  | nil => trivial
  | cons w r =>
    obtain ⟨u, q, e1, _, _, e4⟩ := sqz1_cor r w (genL_fall ws w r h)
    show Cor (sqz1 w r)
    rw [e1]; exact e4
theorem Cor1.tail {w : Wd} : ∀ {r : List Wd}, Cor1 w r → Cor r
  | [], _ => trivial
  | _ :: _, h => h.2.2
theorem fs_low {w : Wd} {r : List Wd} {x : Int} (h : Cor1 w r) (hx : w.2 - 1 ≤ x) : fs r x = fs r (w.2 - 1) := by
  cases r with
  | nil => rfl
  | cons v r => have := h.1; rw [fs_pos (by omega), fs_pos (by omega)]
theorem cor_uniq : ∀ {a b : List Wd}, Cor a → Cor b → (∀ x, fs a x = fs b x) → a = b
  | [], [], _, _, _ => rfl
  | [], v :: q, _, _, h => by have := h v.2; rw [fs_pos (Int.le_refl _)] at this; cases this
  | w :: r, [], _, _, h => by have := h w.2; rw [fs_pos (Int.le_refl _)] at this; cases this
  | w :: r, v :: q, ha, hb, h => by
    have e1 : w.1 = v.1 := by
      have := h (max w.2 v.2)
      rw [fs_pos (by omega), fs_pos (by omega)] at this
      exact Option.some.inj this
    have low : ∀ {w v : Wd} {r q : List Wd}, Cor1 v q → w.1 = v.1 → (∀ x, fs (w :: r) x = fs (v :: q) x) → ¬ w.2 < v.2 := by
      intro w v r q hq e h g
      have := h (v.2 - 1)
      rw [fs_pos (by omega), fs_neg (by omega)] at this
      cases q with
      | nil => cases this
      | cons u q =>
        have h1 := hq.1
        rw [fs_pos (by omega)] at this
        exact hq.2.1 (by rw [← e]; exact (Option.some.inj this).symm)
    have e2 : w.2 = v.2 := by
      have h1 := low hb e1 h
      have h2 := low (r := q) ha e1.symm fun x => (h x).symm
      omega
    have e : w = v := Prod.ext e1 e2
    subst e
    have hr : ∀ x, fs r x = fs q x := fun x => by
      by_cases hx : x < w.2
      · have := h x
        rw [fs_neg (by omega), fs_neg (by omega)] at this
        exact this
      · have := h (w.2 - 1)
        rw [fs_neg (by omega), fs_neg (by omega)] at this
        rw [fs_low (w := w) ha (by omega), fs_low (w := w) hb (by omega), this]
    rw [cor_uniq (Cor1.tail ha) (Cor1.tail hb) hr]
theorem core_eq {a b : List Wd} : coreL a = coreL b ↔ ∀ x, fs a x = fs b x :=
  ⟨fun h x => by rw [← fs_core a, ← fs_core b, h], fun h => cor_uniq (coreL_cor a) (coreL_cor b) fun x => by rw [fs_core, fs_core, h x]⟩
theorem core_self {a : List Wd} : coreL a = a ↔ Cor a := ⟨fun h => by rw [← h]; exact coreL_cor a, fun h => cor_uniq (coreL_cor a) h fun x => fs_core a x⟩
theorem core_core (a : List Wd) : coreL (coreL a) = coreL a := core_self.mpr (coreL_cor a)
theorem behind_gen1 : ∀ {ws : List Wd} {t : Int} {l : List Int}, (∀ w ∈ ws, 0 ≤ w.2) → Gentle t l → behindL l (gen1 t ws) = behindL l ws
  | [], _, _, _, _ => rfl
  | w :: ws, t, l, hw, hg => by
    have hw0 := hw w (by simp)
    have hws : ∀ v ∈ ws, 0 ≤ v.2 := fun v hv => hw v (by simp [hv])
    rw [gen1]
    by_cases h : w.2 < t
    · rw [if_pos h]
      show behindL (blW l w) (gen1 w.2 ws) = behindL (blW l w) ws
      exact behind_gen1 hws (blown_gentle (c := w.1) hw0 l)
    · rw [if_neg h]
      have e : blW l w = l := (blown_idle (c := w.1) hw0).mpr (hg.mono (by omega))
      show behindL l (gen1 t ws) = behindL (blW l w) ws
      rw [e]; exact behind_gen1 hws hg
theorem behind_sqz1 : ∀ {r : List Wd} {w : Wd} {l : List Int}, (∀ v ∈ w :: r, 0 ≤ v.2) → Fall1 w.2 r → behindL l (sqz1 w r) = behindL l (w :: r)
  | [], _, _, _, _ => rfl
  | v :: r, w, l, hw, hf => by
    have ih := fun l => behind_sqz1 (r := r) (w := v) (l := l) (fun u hu => hw u (by simp at hu ⊢; right; exact hu)) hf.2
    rw [sqz1]
    by_cases e : w.1 = v.1
    · rw [if_pos e, ih]
      show behindL (blW l v) r = behindL (blW (blW l w) v) r
      congr 1
      have := blown_twice (c := v.1) (hw w (by simp)) (hw v (by simp)) l
      have h2 := hf.1
      rw [show min w.2 v.2 = v.2 by omega] at this
      show blownL v.1 v.2 l = blownL v.1 v.2 (blownL w.1 w.2 l)
      rw [e, this]
    · rw [if_neg e]
      show behindL (blW l w) (sqz1 v r) = behindL (blW l w) (v :: r)
      exact ih _
theorem behind_core {ws : List Wd} (hw : ∀ w ∈ ws, 0 ≤ w.2) (l : List Int) : behindL l (coreL ws) = behindL l ws := by
  unfold coreL
  cases ws with
  | nil => rfl
  | cons w ws =>
    show behindL l (sqz1 w (gen1 w.2 ws)) = _
    rw [behind_sqz1 (fun v hv => ?_) (gen1_fall ws w.2)]
    · show behindL (blW l w) (gen1 w.2 ws) = behindL (blW l w) ws
      exact behind_gen1 (fun v hv => hw v (by simp [hv])) (blown_gentle (c := w.1) (hw w (by simp)) l)
    · rcases List.mem_cons.mp hv with rfl | hv
      · exact hw _ (by simp)
      · exact hw v (List.mem_cons_of_mem _ (gen1_sub hv))
theorem core_steps {a b : List Wd} (ha : ∀ w ∈ a, 0 ≤ w.2) (hb : ∀ w ∈ b, 0 ≤ w.2) (h : coreL a = coreL b) (l : List Int) : behindL l a = behindL l b := by
  rw [← behind_core ha, ← behind_core hb, h]
end Pl
namespace Pl
open PySem PySem.Spec PyProof.Rows L2
def AmW (a : D) (ws : List Wd) : Prop := ∃ ps : List (D × Wd), (a = .lst (ps.map Prod.fst) ∨ a = .tup (ps.map Prod.fst)) ∧ (∀ p ∈ ps, Wn p.1 p.2.1 p.2.2) ∧ ps.map Prod.snd = ws
theorem Am.w {a : D} {ws : List Wd} (h : Am a ws) : AmW a ws := by
  refine ⟨ws.map fun w => (windD w.1 w.2, w), ?_, fun p hp => ?_, by rw [List.map_map]; exact List.map_id' ws⟩
  · rcases h with rfl | rfl
    · exact .inl (by rw [List.map_map]; rfl)
    · exact .inr (by rw [List.map_map]; rfl)
  · obtain ⟨w, _, rfl⟩ := List.mem_map.mp hp
    exact .inl rfl
theorem AmW.lst (ws : List Wd) : AmW (.lst (windsD ws)) ws := Am.w (.inl rfl)
theorem windsD_snoc (a : List Wd) (w : Wd) : windsD a ++ [windD w.1 w.2] = windsD (a ++ [w]) := by unfold windsD; rw [List.map_append]; rfl
theorem eqv_wind (w v : Wd) : PyData.eqv (toPy (windD w.1 w.2)) (toPy (windD v.1 v.2)) = decide (w = v) := by
  show ((D.str (wordS w.1)).eqv (.str (wordS v.1)) && ((w.2 == v.2) && true)) = _
  rw [eqv_word]
  obtain ⟨a, s⟩ := w
  obtain ⟨b, t⟩ := v
  by_cases h1 : a = b <;> by_cases h2 : s = t <;> simp [h1, h2]
theorem eqvAll_winds : ∀ a b : List Wd, PyData.eqvAll (toPys (windsD a)) (toPys (windsD b)) = decide (a = b)
  | [], [] => rfl
  | [], _ :: _ => rfl
  | _ :: _, [] => rfl
  | w :: a, v :: b => by
    show (PyData.eqv (toPy (windD w.1 w.2)) (toPy (windD v.1 v.2)) && PyData.eqvAll (toPys (windsD a)) (toPys (windsD b))) = _
    rw [eqvAll_winds a b, eqv_wind]
    by_cases h : w = v <;> simp [h]
theorem eqv_winds (a b : List Wd) : (D.lst (windsD a)).eqv (.lst (windsD b)) = decide (a = b) := eqvAll_winds a b
theorem sh_nil' : (D.lst []).sh := sh_nil
def g_gentler_ones : FA := fun ds C => ∃ a ws, ds = [a] ∧ AmW a ws ∧ ws.length ≤ 900 ∧ ∀ p, C (.own p (windsD (genL ws)))
theorem rd_gentler_ones : ∀ ds C, ds.length = 1 → g_gentler_ones ds C → T_gentler_ones (EA C) (startA N_gentler_ones ds) := by
  rintro ds C - ⟨a, ws, rfl, ⟨ps, ha, hp, rfl⟩, hl, hC⟩
  rw [List.length_map] at hl
  refine ⟨Nat.zero_le _, fun b => ?_⟩
  have body : ∀ a', forW (hTup 2 (hCons (hName 2) (hCons (hName 3) hNil))) (pIfS (pOr (pTest (pPeek (pOp fEq (pVar 1) (pLst pNil)))) (pTest (pOp fLt (pVar 3) (pOp fIx (pIxO 1 (pUn fNeg (pC (.int 1)))) (pC (.int 1)))))) (pAppend 1 (pTup (pCons (pVar 2) (pCons (pVar 3) pNil)))) pNext) { nx := pRet (pMove 1) (EA C), rt := (EA C).rt } (ps.map Prod.fst) [some (.val a'), some (.own b []), none, none] := by
    intro a'
    refine fr_mp ps Prod.fst (fun r ρ => (∀ p ∈ r, Wn p.1 p.2.1 p.2.2) ∧ ∃ (acc : List Wd) (w2 w3 : Option Cell), acc.length + r.length ≤ 900 ∧ ((acc = [] ∧ genL (ps.map Prod.snd) = genL (r.map Prod.snd)) ∨ ∃ ini w, acc = ini ++ [w] ∧ genL (ps.map Prod.snd) = acc ++ gen1 w.2 (r.map Prod.snd)) ∧ ρ = [some (.val a'), some (.own b (windsD acc)), w2, w3]) rfl ⟨hp, [], none, none, by simpa using hl, .inl ⟨rfl, rfl⟩, rfl⟩ (fun p r ρ K hI hK => ?_) (fun ρ hI => ?_)
    · obtain ⟨hr, acc, w2, w3, hlen, hg, rfl⟩ := hI
      obtain ⟨d, v⟩ := p
      have hlen' : acc.length + (r.length + 1) ≤ 900 := hlen
      have hr' : ∀ p ∈ r, Wn p.1 p.2.1 p.2.2 := fun p hp => hr p (by simp [hp])
      have hw : Wn d v.1 v.2 := hr (d, v) (by simp)
      have app : (acc = [] ∧ genL (ps.map Prod.snd) = genL (v :: r.map Prod.snd)) ∨ (∃ ini w, acc = ini ++ [w] ∧ genL (ps.map Prod.snd) = acc ++ gen1 w.2 (v :: r.map Prod.snd) ∧ v.2 < w.2) → K [some (.val a'), some (.own b (windsD acc ++ [windD v.1 v.2])), some (.val (.str (wordS v.1))), some (.val (.int v.2))] := fun h => by
        rw [windsD_snoc]
        refine hK _ ⟨hr', acc ++ [v], _, _, by simp; omega, .inr ⟨acc, v, rfl, ?_⟩, rfl⟩
        rcases h with ⟨rfl, e⟩ | ⟨ini, w, e1, e2, h⟩
        · rw [e]; rfl
        · rw [e2, gen1, if_pos h, List.append_assoc]; rfl
      have sz : (windsD acc).length < sizeLine := small1000 (by rw [windsD_len]; omega)
      have two : (2 : Nat) ≤ sizeLine := by decide
      have main : hCons (hName 2) (hCons (hName 3) hNil) [.str (wordS v.1), .int v.2] [some (.val a'), some (.own b (windsD acc)), w2, w3] (fun ρ1 => pIfS (pOr (pTest (pPeek (pOp fEq (pVar 1) (pLst pNil)))) (pTest (pOp fLt (pVar 3) (pOp fIx (pIxO 1 (pUn fNeg (pC (.int 1)))) (pC (.int 1)))))) (pAppend 1 (pTup (pCons (pVar 2) (pCons (pVar 3) pNil)))) pNext { nx := K, rt := (EA C).rt, bk := pRet (pMove 1) (EA C), ct := K } ρ1) := by
        refine ⟨rfl, Nat.zero_le _, sh_winds _, sh_nil', ?_⟩
        rw [eqv_nil]
        rcases hg with ⟨rfl, e⟩ | ⟨ini, w, rfl, e⟩
        · refine ifT (by simp) ⟨two, _, rfl, sz, app (.inl ⟨rfl, e⟩)⟩
        · refine ifF (by simp) ⟨_, _, windD w.1 w.2, rfl, rfl, by rw [← windsD_snoc]; exact atI_last _ _, _, rfl, ?_⟩
          refine ifB (fun q => ⟨two, _, rfl, sz, app (.inr ⟨ini, w, rfl, e, dT q⟩)⟩) (fun q => ?_)
          refine hK _ ⟨hr', ini ++ [w], _, _, by omega, .inr ⟨ini, w, rfl, ?_⟩, rfl⟩
          rw [e, List.map_cons, gen1, if_neg (dF q)]
      rcases hw with e | e
      · have e : d = windD v.1 v.2 := e
        subst e
        exact ⟨rfl, main⟩
      · have e : d = .lst [.str (wordS v.1), .int v.2] := e
        subst e
        exact ⟨rfl, main⟩
    · obtain ⟨hr, acc, w2, w3, hlen, hg, rfl⟩ := hI
      have : acc = genL (ps.map Prod.snd) := by
        rcases hg with ⟨rfl, e⟩ | ⟨ini, w, rfl, e⟩
        · rw [e]; rfl
        · rw [e]; simp [gen1]
      rw [this]
      exact hC b
  rcases ha with rfl | rfl
  · exact body _
  · exact body _
def g_core : FA := fun ds C => ∃ a ws, ds = [a] ∧ AmW a ws ∧ ws.length ≤ 900 ∧ ∀ p, C (.own p (windsD (coreL ws)))
theorem rd_core : ∀ ds C, ds.length = 1 → g_core ds C → T_core g_gentler_ones (EA C) (startA N_core ds) := by
  rintro ds C - ⟨a, ws, rfl, ha, hl, hC⟩
  refine ⟨Nat.zero_le _, fun b => ⟨rfl, a, ws, rfl, ha, hl, fun p => ?_⟩⟩
  have hgl := genL_len ws
  refine fr_mp (genL ws) (fun w => windD w.1 w.2) (fun r ρ => ∃ (acc : List Wd) (w2 : Option Cell), acc.length + r.length ≤ 900 ∧ ((acc = [] ∧ coreL ws = sqz r) ∨ ∃ ini w, acc = ini ++ [w] ∧ coreL ws = ini ++ sqz1 w r) ∧ ρ = [some (.val a), some (.own b (windsD acc)), w2]) rfl ⟨[], none, by simp; omega, .inl ⟨rfl, rfl⟩, rfl⟩ (fun v r ρ K hI hK => ?_) (fun ρ hI => ?_)
  · obtain ⟨acc, w2, hlen, hg, rfl⟩ := hI
    have hlen' : acc.length + (r.length + 1) ≤ 900 := hlen
    refine ⟨Nat.zero_le _, sh_winds _, sh_nil', ?_⟩
    show if (!(D.lst (windsD acc)).eqv (.lst [])) = true then _ else _
    rw [eqv_nil]
    rcases hg with ⟨rfl, e⟩ | ⟨ini, w, rfl, e⟩
    · refine ifF (by simp) ⟨_, rfl, by show (0 : Nat) < sizeLine; decide, ?_⟩
      exact hK _ ⟨[v], _, by simp; omega, .inr ⟨[], v, rfl, e⟩, rfl⟩
    · refine ifT (by simp) ⟨_, _, windD w.1 w.2, rfl, rfl, by rw [← windsD_snoc]; exact atI_last _ _, _, rfl, _, rfl, sh_word _, sh_word _, ?_⟩
      rw [eqv_word]
      have hlen2 : ini.length + 1 + (r.length + 1) ≤ 900 := by rw [List.length_append, List.length_singleton] at hlen'; exact hlen'
      by_cases q : w.1 = v.1
      · refine ifT (by rw [q]; simp) ⟨windD w.1 w.2, ?_, ?_⟩
        · rw [windsD_len, List.length_append, List.length_singleton, Nat.add_sub_cancel]
          unfold windsD
          rw [List.getElem?_map, List.getElem?_append_right (Nat.le_refl _), Nat.sub_self]; rfl
        · have ed : (windsD (ini ++ [w])).dropLast = windsD ini := by unfold windsD; rw [List.map_append, List.map_singleton, List.dropLast_concat]
          refine ⟨windsD ini, by show some (some (Cell.own b (windsD (ini ++ [w])).dropLast)) = _; rw [ed], small1000 (by rw [windsD_len]; omega), ?_⟩
          have : K [some (.val a), some (.own b (windsD ini ++ [windD v.1 v.2])), some (.val (windD v.1 v.2))] := by
            rw [windsD_snoc]
            exact hK _ ⟨ini ++ [v], _, by simp; omega, .inr ⟨ini, v, rfl, by rw [e, sqz1, if_pos q]⟩, rfl⟩
          exact this
      · refine ifF (by cases h : w.1 <;> cases h2 : v.1 <;> simp_all) ⟨_, rfl, small1000 (by rw [windsD_len]; simp; omega), ?_⟩
        have : K [some (.val a), some (.own b (windsD (ini ++ [w]) ++ [windD v.1 v.2])), some (.val (windD v.1 v.2))] := by
          rw [windsD_snoc]
          exact hK _ ⟨(ini ++ [w]) ++ [v], _, by simp; omega, .inr ⟨ini ++ [w], v, rfl, by rw [e, sqz1, if_neg q, List.append_assoc]; rfl⟩, rfl⟩
        exact this
  · obtain ⟨acc, w2, hlen, hg, rfl⟩ := hI
    have : acc = coreL ws := by
      rcases hg with ⟨rfl, e⟩ | ⟨ini, w, rfl, e⟩
      · rw [e]; rfl
      · rw [e]; rfl
    rw [this]
    exact hC b
def g_alike : FA := fun ds C => ∃ a ws b vs, ds = [a, b] ∧ AmW a ws ∧ AmW b vs ∧ ws.length ≤ 900 ∧ vs.length ≤ 900 ∧ C (.val (.bl (decide (coreL ws = coreL vs))))
theorem rd_alike : ∀ ds C, ds.length = 2 → g_alike ds C → T_alike g_core (EA C) (startA N_alike ds) := by
  rintro ds C - ⟨a, ws, b, vs, rfl, ha, hb, hl, hl2, hC⟩
  refine ⟨rfl, a, ws, rfl, ha, hl, fun p => ⟨rfl, b, vs, rfl, hb, hl2, fun q => ⟨sh_winds _, sh_winds _, ?_⟩⟩⟩
  show C (.val (.bl ((D.lst (windsD (coreL ws))).eqv (.lst (windsD (coreL vs))))))
  rw [eqv_winds]; exact hC
def optW : Option Bool → D
  | none => .non
  | some b => .str (wordS b)
theorem sh_optW (o : Option Bool) : (optW o).sh := by
  cases o with
  | none => unfold D.sh; decide +kernel
  | some b => exact sh_word b
theorem eqv_optW (o p : Option Bool) : (optW o).eqv (optW p) = decide (o = p) := by
  cases o with
  | none => cases p with
    | none => rfl
    | some b => cases b <;> decide +kernel
  | some a => cases p with
    | none => cases a <;> decide +kernel
    | some b => cases a <;> cases b <;> decide +kernel
def g_first_to_shift : FA := fun ds C => ∃ a ws t, ds = [a, .int t] ∧ AmW a ws ∧ C (.val (optW (fs ws t)))
theorem rd_first_to_shift : ∀ ds C, ds.length = 2 → g_first_to_shift ds C → T_first_to_shift (EA C) (startA N_first_to_shift ds) := by
  rintro ds C - ⟨a, ws, t, rfl, ⟨ps, ha, hp, rfl⟩, hC⟩
  have body : ∀ a', forW (hTup 2 (hCons (hName 2) (hCons (hName 3) hNil))) (pIfS (pTest (pOp fLe (pVar 3) (pVar 1))) (pRet (pMove 2)) pNext) { nx := pRet (pVal (pC .non)) (EA C), rt := (EA C).rt } (ps.map Prod.fst) [some (.val a'), some (.val (.int t)), none, none] := by
    intro a'
    refine fr_mp ps Prod.fst (fun r ρ => (∀ p ∈ r, Wn p.1 p.2.1 p.2.2) ∧ ∃ w2 w3, fs (ps.map Prod.snd) t = fs (r.map Prod.snd) t ∧ ρ = [some (.val a'), some (.val (.int t)), w2, w3]) rfl ⟨hp, none, none, rfl, rfl⟩ (fun p r ρ K hI hK => ?_) (fun ρ hI => ?_)
    · obtain ⟨hr, w2, w3, e, rfl⟩ := hI
      obtain ⟨d, v⟩ := p
      have hr' : ∀ p ∈ r, Wn p.1 p.2.1 p.2.2 := fun p hp => hr p (by simp [hp])
      have hw : Wn d v.1 v.2 := hr (d, v) (by simp)
      have e : fs (ps.map Prod.snd) t = fs (v :: r.map Prod.snd) t := e
      have main : hCons (hName 2) (hCons (hName 3) hNil) [.str (wordS v.1), .int v.2] [some (.val a'), some (.val (.int t)), w2, w3] (fun ρ1 => pIfS (pTest (pOp fLe (pVar 3) (pVar 1))) (pRet (pMove 2)) pNext { nx := K, rt := (EA C).rt, bk := pRet (pVal (pC .non)) (EA C), ct := K } ρ1) := by
        refine ⟨rfl, ifB (fun q => ?_) (fun q => ?_)⟩
        · rw [e, fs_pos (dT q)] at hC; exact hC
        · exact hK _ ⟨hr', _, _, by rw [e, fs_neg (dF q)], rfl⟩
      rcases hw with e | e
      · have e : d = windD v.1 v.2 := e
        subst e
        exact ⟨rfl, main⟩
      · have e : d = .lst [.str (wordS v.1), .int v.2] := e
        subst e
        exact ⟨rfl, main⟩
    · obtain ⟨hr, w2, w3, e, rfl⟩ := hI
      rw [e] at hC
      exact hC
  rcases ha with rfl | rfl
  · exact body _
  · exact body _
end Pl
namespace Pl
open PySem PySem.Spec PyProof.Rows L2
def lastWd (gs : List Wd) (k : Nat) (w : Wd) : Bool := decide (k + 1 = gs.length) || !(decide ((gs.getD (k + 1) w).1 = w.1))
theorem filt_sqz : ∀ (r pre : List Wd) (w : Wd), (((w :: r).zipIdx pre.length).filter fun z => lastWd (pre ++ w :: r) z.2 z.1).map (·.1) = sqz1 w r
  | [], pre, w => by
    have : lastWd (pre ++ [w]) pre.length w = true := by unfold lastWd; simp
    simp [this, sqz1]
  | v :: r, pre, w => by
    have ih := filt_sqz r (pre ++ [w]) v
    rw [List.length_append, List.length_singleton, List.append_assoc] at ih
    have ih : (((v :: r).zipIdx (pre.length + 1)).filter fun z => lastWd (pre ++ w :: v :: r) z.2 z.1).map (·.1) = sqz1 v r := ih
    have hw : lastWd (pre ++ w :: v :: r) pre.length w = !(decide (v.1 = w.1)) := by
      unfold lastWd
      rw [decide_eq_false (by simp), Bool.false_or, List.getD_eq_getElem?_getD, List.getElem?_append_right (by omega), show pre.length + 1 - pre.length = 1 by omega]; rfl
    rw [sqz1]
    by_cases e : w.1 = v.1
    · rw [if_pos e, List.zipIdx_cons, List.filter_cons_of_neg (by show ¬ lastWd (pre ++ w :: v :: r) pre.length w = true; rw [hw, e]; simp)]
      exact ih
    · rw [if_neg e, List.zipIdx_cons, List.filter_cons_of_pos (by show lastWd (pre ++ w :: v :: r) pre.length w = true; rw [hw]; simp; exact fun z => e z.symm), List.map_cons, ih]
theorem filt_core (gs : List Wd) : ((gs.zipIdx).filter fun z => lastWd gs z.2 z.1).map (·.1) = sqz gs := by
  cases gs with
  | nil => rfl
  | cons w r => exact filt_sqz r [] w
def g__law_core : FA := fun ds C => ∃ a ws, ds = [a] ∧ Am a ws ∧ ws.length ≤ 900 ∧ ∀ p, C (.own p (windsD (coreL ws)))
theorem rd__law_core : ∀ ds C, ds.length = 1 → g__law_core ds C → T__law_core (EA C) (startA N__law_core ds) := by
  rintro ds C - ⟨a, ws, rfl, ha, hl, hC⟩
  refine ⟨Nat.zero_le _, fun b => ?_⟩
  have two : (2 : Nat) ≤ sizeLine := by decide
  have body : ∀ a', forW (hTup 2 (hCons (hName 3) (hCons (hName 4) hNil))) (pIfS (pOr (pTest (pOp fIsN (pVar 2) (pC .non))) (pTest (pOp fLt (pVar 4) (pVar 2))))
    (pSeq (pAppend 1 (pTup (pCons (pVar 3) (pCons (pVar 4) pNil)))) (pSet 2 (pVal (pVar 4)))) pNext) { nx := pRet (pLcO (jE (pCons (pVar 1) pNil)) (hTup 2 (hCons (hName 5) (hCons (hName 6) hNil))) (pOr (pTest (pOp fEq (pOp fAdd (pVar 5) (pC (.int 1))) (pLenO 1))) (pTest (pOp fNe (pOp fIx (pIxO 1 (pOp fAdd (pVar 5) (pC (.int 1)))) (pC (.int 0))) (pIxO 6 (pC (.int 0)))))) (pVar 6) [5, 6]) (EA C), rt := (EA C).rt } (windsD ws) [some (.val a'), some (.own b []), some (.val .non), none, none, none, none] := by
    intro a'
    refine fr_mp ws (fun w => windD w.1 w.2) (fun r ρ => ∃ (acc : List Wd) (dl : D) (w3 w4 : Option Cell), acc.length + r.length ≤ 900 ∧ ((acc = [] ∧ dl = .non ∧ genL ws = genL r) ∨ ∃ ini w, acc = ini ++ [w] ∧ dl = .int w.2 ∧ genL ws = acc ++ gen1 w.2 r) ∧ ρ = [some (.val a'), some (.own b (windsD acc)), some (.val dl), w3, w4, none, none]) rfl ⟨[], .non, none, none, by simpa using hl, .inl ⟨rfl, rfl, rfl⟩, rfl⟩ (fun v r ρ K hI hK => ?_) (fun ρ hI => ?_)
    · obtain ⟨acc, dl, w3, w4, hlen, hg, rfl⟩ := hI
      have hlen' : acc.length + (r.length + 1) ≤ 900 := hlen
      have sz : (windsD acc).length < sizeLine := small1000 (by rw [windsD_len]; omega)
      have app : (acc = [] ∧ genL ws = genL (v :: r)) ∨ (∃ ini w, acc = ini ++ [w] ∧ genL ws = acc ++ gen1 w.2 (v :: r) ∧ v.2 < w.2) → K [some (.val a'), some (.own b (windsD acc ++ [windD v.1 v.2])), some (.val (.int v.2)), some (.val (.str (wordS v.1))), some (.val (.int v.2)), none, none] := fun h => by
        rw [windsD_snoc]
        refine hK _ ⟨acc ++ [v], .int v.2, _, _, by simp; omega, .inr ⟨acc, v, rfl, rfl, ?_⟩, rfl⟩
        rcases h with ⟨rfl, e⟩ | ⟨ini, w, e1, e2, h⟩
        · rw [e]; rfl
        · rw [e2, gen1, if_pos h, List.append_assoc]; rfl
      rcases hg with ⟨rfl, rfl, e⟩ | ⟨ini, w, rfl, rfl, e⟩
      · exact ⟨rfl, rfl, two, _, rfl, sz, app (.inl ⟨rfl, e⟩)⟩
      · refine ⟨rfl, rfl, ifB (fun q => ⟨two, _, rfl, sz, app (.inr ⟨ini, w, rfl, e, dT q⟩)⟩) (fun q => ?_)⟩
        refine hK _ ⟨ini ++ [w], .int w.2, _, _, by omega, .inr ⟨ini, w, rfl, rfl, ?_⟩, rfl⟩
        rw [e, gen1, if_neg (dF q)]
    · obtain ⟨acc, dl, w3, w4, hlen, hg, rfl⟩ := hI
      have hacc : acc = genL ws := by
        rcases hg with ⟨rfl, _, e⟩ | ⟨ini, w, rfl, _, e⟩
        · rw [e]; rfl
        · rw [e]; simp [gen1]
      have hal : acc.length ≤ 900 := by simpa using hlen
      have fin : ∀ p, C (.own p (((acc.zipIdx).filter fun z => lastWd acc z.2 z.1).map fun z => windD z.1.1 z.1.2)) := fun p => by
        have := hC p
        unfold coreL at this
        rw [← hacc, ← filt_core] at this
        unfold windsD at this
        rw [List.map_map] at this
        exact this
      refine lc_enf acc (fun w => windD w.1 w.2) (fun _ w => windD w.1 w.2) (fun k w => lastWd acc k w) rfl (fun k w hk K hK => ?_) (by omega) fun p => fin p
      refine ⟨rfl, rfl, sh_int _, sh_int _, ?_⟩
      have el : (D.int ((k : Int) + 1)).eqv (.int (((windsD acc).length : Nat) : Int)) = decide (k + 1 = acc.length) := by
        rw [eqv_int, windsD_len]
        by_cases h : k + 1 = acc.length
        · have : ((k : Int) + 1) = ((acc.length : Nat) : Int) := by omega
          simp [h, this]
        · have : ¬ ((k : Int) + 1) = ((acc.length : Nat) : Int) := by omega
          simp [h, this]
      rw [el]
      have hkl := lt_of_get hk
      by_cases h : k + 1 = acc.length
      · have e : lastWd acc k w = true := by unfold lastWd; rw [decide_eq_true h]; rfl
        rw [e] at hK
        exact ifT (by simp [h]) (hK _ rfl fun _ K2 hK2 => hK2 _ rfl)
      · have hk1 : k + 1 < acc.length := by omega
        have hg1 : acc[k + 1]? = some (acc.getD (k + 1) w) := by rw [List.getD_eq_getElem?_getD, List.getElem?_eq_getElem hk1]; rfl
        refine ifF (by simp [h]) ⟨windD (acc.getD (k + 1) w).1 (acc.getD (k + 1) w).2, ?_, _, rfl, _, rfl, sh_word _, sh_word _, ?_⟩
        · have : (windsD acc)[k + 1]? = some (windD (acc.getD (k + 1) w).1 (acc.getD (k + 1) w).2) := by unfold windsD; rw [List.getElem?_map, hg1]; rfl
          exact atI_nat this
        · have e : lastWd acc k w = !((acc.getD (k + 1) w).1 == w.1) := by
            unfold lastWd
            rw [decide_eq_false h, Bool.false_or]
            cases (acc.getD (k + 1) w).1 <;> cases w.1 <;> rfl
          show K (!(D.str (wordS (acc.getD (k + 1) w).1)).eqv (.str (wordS w.1))) _
          rw [eqv_word, ← e]
          exact hK _ rfl fun _ K2 hK2 => hK2 _ rfl
  rcases ha with rfl | rfl
  · exact body _
  · exact body _
end Pl
namespace Pl
open PySem PySem.Spec PyProof.Rows L2
def gRight : FB := fun xs ds C => ∃ m, m ≤ 10000000 ∧ Bx m xs ∧ ds = [] ∧ ∀ zs, Bx (m + 1000000) zs → C (.val (.bl true)) zs
def Tlaw (n : Int) (g_box : FA) (g_right : FB) : TSp :=
  pSeq (pFor (jRng1 (pCons (pOp fAdd (pC (.int 1)) (pCB fMin2 (pCons (pC (.int 2)) (pCons (pLenO 0) pNil)))) pNil)) (hName 1)
    (pSeq (pSet 2 (pCallA 2 g_box (pCons (pVar 0) (pCons (pVar 1) pNil))))
    (pIfS (pNot (pTest (pCB fAll (pCons (pLc (jRng1 (pCons (pC (.int n)) pNil)) (hName 3) pYes (pFrz (pCallB 2 1 g_right pNil)) [3]) pNil)))) (pRet (pVal (pC (.bl false)))) pNext)))
    (pRet (pVal (pC (.bl true))))
theorem rd_Tlaw (N : List Str) (hN : N.length = 4) (n : Nat) (hn : n ≤ 10) : ∀ ds C, ds.length = 1 → g_law ds C → Tlaw n g__law_box gRight (EA C) (startA N ds) := by
  rintro ds C - ⟨ns, rfl, hns, hC⟩
  have eS : startA N [.scr ns] = [some (.val (.scr ns)), none, none, none] := by unfold startA; rw [hN]; rfl
  rw [eS]
  refine ⟨by show (-(2 ^ 62) : Int) ≤ 1 + min 2 _; omega, by show (1 + min 2 _ : Int) < 2 ^ 62; omega, ?_⟩
  refine fr_rg (1 + min 2 (ns.length : Int)).toNat (fun j ρ => ∃ w1 w2, ρ = [some (.val (.scr ns)), w1, w2, none]) rfl ⟨none, none, rfl⟩ (fun k ρ K hk hI hK => ?_) (fun ρ hI => hC)
  obtain ⟨w1, w2, rfl⟩ := hI
  refine ⟨rfl, ns, k, rfl, by omega, by omega, fun a0 zs hB => ?_⟩
  refine ⟨by show (-(2 ^ 62) : Int) ≤ (n : Int); omega, by show ((n : Int)) < 2 ^ 62; omega, ?_⟩
  refine lcW_inv (fun ds acc ρ => ∃ (j : Nat) (zs : List D), acc = (List.replicate j true).map D.bl ∧ j + ds.length = n ∧ Bx (1000000 * j) zs ∧ ρ = [some (.val (.scr ns)), some (.val (.int k)), some (.own a0 zs), none]) (fun d r acc ρ K2 hK2 hI => ?_) (fun acc ρ hI => ?_) _ _ _ ⟨0, zs, rfl, by simp [rangeD], hB, rfl⟩
  · obtain ⟨j, zs, rfl, hj, hB, rfl⟩ := hI
    have hj' : j + (r.length + 1) = n := hj
    refine ⟨zs, rfl, rfl, _, by omega, hB, rfl, fun zs2 hB2 => ⟨small1000 (by rw [List.length_map, List.length_replicate]; omega), ?_⟩⟩
    refine hK2 _ _ ⟨j + 1, zs2, ?_, by omega, by rw [Nat.mul_add]; exact hB2, rfl⟩
    rw [List.replicate_succ', List.map_append]; rfl
  · obtain ⟨j, zs, rfl, hj, hB, rfl⟩ := hI
    refine ⟨_, rfl, ifF ?_ (hK _ ⟨_, _, rfl⟩)⟩
    have : (List.replicate j true).all id = true := by rw [List.all_eq_true]; intro x hx; exact (List.mem_replicate.mp hx).2
    rw [this]; rfl
theorem ins_len (vs : List Wd) (q : Nat) (m : Wd) : (vs.take q ++ [m] ++ vs.drop q).length = vs.length + 1 := by
  rw [List.append_assoc, List.length_append, List.length_append, List.length_take, List.length_drop, List.length_singleton]; omega
theorem atW {vs : List Wd} {j : Nat} {w : Wd} (h : vs[j]? = some w) : atI (windsD vs) (j : Int) = some (windD w.1 w.2) := by
  have : (windsD vs)[j]? = some (windD w.1 w.2) := by unfold windsD; rw [List.getElem?_map, h]; rfl
  exact atI_nat this
theorem okN_winds {cs : List Wd} (h : cs.length ≤ 1000) : okN 3 (.lst (windsD cs)) := ⟨by rw [windsD_len]; exact h, fun x hx => by
  obtain ⟨w, _, rfl⟩ := mem_windsD hx
  exact ⟨by show (2 : Nat) ≤ 1000; decide, fun y hy => by
    rcases List.mem_cons.mp hy with rfl | hy
    · exact sh_word _
    · rw [List.mem_singleton.mp hy]; trivial⟩⟩
abbrev vW (ws : List Wd) : Option Cell := some (.val (.lst (windsD ws)))
abbrev vo (a : Addr) (zs : List D) : Option Cell := some (.own a zs)
end Pl
namespace Pl
open PySem PySem.Spec PyProof.Rows L2
def Pw (ws : List Wd) : Prop := ∀ w ∈ ws, 0 ≤ w.2
def g__law_near : FB := fun xs ds C => ∃ n a ws, n ≤ 1000000000 ∧ Bx n xs ∧ ds = [a] ∧ Am a ws ∧ ws.length ≤ 100 ∧ Pw ws ∧ ∀ vs zs, vs.length ≤ ws.length + 1 → Pw vs → Bx (n + 20) zs → C (.val (.lst (windsD vs))) zs
theorem cut_to' (ws : List Wd) (j : Nat) : cutD (windsD ws) none (some (j : Int)) = windsD (ws.take j) := by rw [cutD_to, windsD_take]
theorem cut_from' (ws : List Wd) (j : Nat) : cutD (windsD ws) (some (j : Int)) none = windsD (ws.drop j) := by rw [cutD_from, windsD_drop]
theorem cut_fromI (ws : List Wd) (i : Int) (j : Nat) (h : i = (j : Int)) : cutD (windsD ws) (some i) none = windsD (ws.drop j) := by rw [h, cut_from']
theorem cut_midI (ws : List Wd) (i : Int) (j k : Nat) (h : i = (k : Int)) (hjk : j ≤ k) : cutD (windsD ws) (some (j : Int)) (some i) = windsD ((ws.drop j).take (k - j)) := by rw [h, cutD_mid hjk, windsD_drop, windsD_take]
theorem Pw.take {ws : List Wd} (h : Pw ws) (j : Nat) : Pw (ws.take j) := fun w hw => h w (List.mem_of_mem_take hw)
theorem Pw.drop {ws : List Wd} (h : Pw ws) (j : Nat) : Pw (ws.drop j) := fun w hw => h w (List.mem_of_mem_drop hw)
theorem Pw.app {a b : List Wd} (h : Pw a) (g : Pw b) : Pw (a ++ b) := fun w hw => by
  rcases List.mem_append.mp hw with q | q
  · exact h w q
  · exact g w q
theorem Pw.one {w : Wd} (h : 0 ≤ w.2) : Pw [w] := fun v hv => by rw [List.mem_singleton.mp hv]; exact h
theorem szW {a b : List Wd} (h : a.length + b.length ≤ 1000) : (windsD a).length + (windsD b).length ≤ sizeLine := sl1000 (by rw [windsD_len, windsD_len]; exact h)
theorem eqA (ws : List Wd) (j : Nat) (i : Int) (k : Nat) (h : i = (k : Int)) (m : Wd) : cutD (windsD ws) none (some (j : Int)) ++ [windD m.1 m.2] ++ cutD (windsD ws) (some i) none = windsD (ws.take j ++ [m] ++ ws.drop k) := by
  rw [cut_to', cut_fromI ws i k h, windsD_snoc, windsD_append]
theorem eqB (ws : List Wd) (j : Nat) (i : Int) (k : Nat) (h : i = (k : Int)) : cutD (windsD ws) none (some (j : Int)) ++ cutD (windsD ws) (some i) none = windsD (ws.take j ++ ws.drop k) := by
  rw [cut_to', cut_fromI ws i k h, windsD_append]
theorem eqR (ws : List Wd) (j : Nat) (i : Int) (k : Nat) (h : i = (k : Int)) (hjk : j ≤ k) : cutD (windsD ws) none (some (j : Int)) ++ (cutD (windsD ws) (some (j : Int)) (some i)).reverse ++ cutD (windsD ws) (some i) none = windsD (ws.take j ++ ((ws.drop j).take (k - j)).reverse ++ ws.drop k) := by
  rw [cut_to', cut_fromI ws i k h, cut_midI ws i j k h hjk, windsD_reverse, windsD_append, windsD_append]
theorem szA {ws : List Wd} (h : ws.length ≤ 100) (j : Nat) (x : D) : (cutD (windsD ws) none (some (j : Int))).length + ([x] : List D).length ≤ sizeLine := by
  refine sl1000 ?_; rw [cut_to', windsD_len, List.length_take, List.length_singleton]; omega
theorem szB {ws : List Wd} (h : ws.length ≤ 100) (j : Nat) (x : D) (i : Int) (k : Nat) (hi : i = (k : Int)) : (cutD (windsD ws) none (some (j : Int)) ++ [x]).length + (cutD (windsD ws) (some i) none).length ≤ sizeLine := by
  refine sl1000 ?_; rw [List.length_append, cut_to', cut_fromI ws i k hi, windsD_len, windsD_len, List.length_take, List.length_drop, List.length_singleton]; omega
theorem szC {ws : List Wd} (h : ws.length ≤ 100) (j : Nat) (i : Int) (k : Nat) (hi : i = (k : Int)) : (cutD (windsD ws) none (some (j : Int))).length + (cutD (windsD ws) (some i) none).length ≤ sizeLine := by
  refine sl1000 ?_; rw [cut_to', cut_fromI ws i k hi, windsD_len, windsD_len, List.length_take, List.length_drop]; omega
theorem szR {ws : List Wd} (h : ws.length ≤ 100) (j : Nat) (i : Int) (k : Nat) (hi : i = (k : Int)) (hjk : j ≤ k) : (cutD (windsD ws) none (some (j : Int))).length + ((cutD (windsD ws) (some (j : Int)) (some i)).reverse).length ≤ sizeLine ∧ (cutD (windsD ws) none (some (j : Int)) ++ (cutD (windsD ws) (some (j : Int)) (some i)).reverse).length + (cutD (windsD ws) (some i) none).length ≤ sizeLine := by
  rw [cut_to', cut_fromI ws i k hi, cut_midI ws i j k hi hjk]
  constructor
  · refine sl1000 ?_; rw [List.length_reverse, windsD_len, windsD_len, List.length_take, List.length_take, List.length_drop]; omega
  · refine sl1000 ?_; rw [List.length_append, List.length_reverse, windsD_len, windsD_len, windsD_len, List.length_take, List.length_take, List.length_drop, List.length_drop]; omega
theorem add3 {a b c : List Wd} {Q : D → Prop} (h : a.length + b.length + c.length ≤ 1000) (hQ : Q (.lst (windsD (a ++ b ++ c)))) : fAdd (.lst (windsD a)) (.lst (windsD b)) fun z => fAdd z (.lst (windsD c)) Q := by
  refine ⟨szW (by omega), ?_⟩
  show fAdd (.lst (windsD a ++ windsD b)) (.lst (windsD c)) Q
  rw [windsD_append]
  refine ⟨szW (by rw [List.length_append]; omega), ?_⟩
  rw [windsD_append]; exact hQ
theorem rd__law_near : ∀ a xs ds C, ds.length + 1 = 2 → g__law_near xs ds C → T__law_near (g_take 100000000000000) g__law_slope (EB a C) (startB N__law_near a xs ds) := by
  rintro a xs ds C - ⟨n, d, ws, hn, hB, rfl, ha, hl, hw, hC⟩
  have two : (2 : Nat) ≤ sizeLine := by decide
  have one : (1 : Nat) ≤ sizeLine := by decide
  have key : ∀ d' : D, ((T__law_near (g_take 100000000000000) g__law_slope = T__law_near (g_take 100000000000000) g__law_slope)) → ∀ (r : Int) (zs1 : List D), 0 ≤ r → r < 7 → Bx (n + 2) zs1 → pSeq (pSet 4 (pCallB 0 2 (g_take 100000000000000) (pCons (pOp fAdd (pLenO 2) (pC (.int 1))) pNil)))
    (pSeq (pIfS (pOr (pTest (pOp fEq (pVar 3) (pC (.int 0)))) (pTest (pOp fEq (pVar 4) (pLenO 2))))
    (pRet (pVal (pOp fAdd (pOp fAdd (pSl (pVar 2) pNoPart (pPart (pVar 4))) (pLst (pCons (pTup (pCons (pOp fIx (pLst (pCons (pC (.str "cut")) (pCons (pC (.str "fill")) pNil))) (pFrz (pCallB 0 2 (g_take 100000000000000) (pCons (pC (.int 2)) pNil)))) (pCons (pFrz (pCallB 0 1 g__law_slope pNil)) pNil))) pNil))) (pSl (pVar 2) (pPart (pVar 4)) pNoPart))))
    pNext)
    (pSeq (pAsg (pIxO 2 (pVar 4)) (hTup 2 (hCons (hName 5) (hCons (hName 6) hNil))))
    (pSeq (pIfS (pTest (pOp fEq (pVar 3) (pC (.int 1))))
    (pRet (pVal (pOp fAdd (pSl (pVar 2) pNoPart (pPart (pVar 4))) (pSl (pVar 2) (pPart (pOp fAdd (pVar 4) (pC (.int 1)))) pNoPart))))
    pNext)
    (pSeq (pIfS (pTest (pOp fEq (pVar 3) (pC (.int 2))))
    (pRet (pVal (pOp fAdd (pOp fAdd (pSl (pVar 2) pNoPart (pPart (pVar 4))) (pLst (pCons (pIxO 2 (pVar 4)) pNil))) (pSl (pVar 2) (pPart (pVar 4)) pNoPart))))
    pNext)
    (pSeq (pIfS (pTest (pOp fEq (pVar 3) (pC (.int 3))))
    (pRet (pVal (pOp fAdd (pOp fAdd (pSl (pVar 2) pNoPart (pPart (pVar 4))) (pUn fRev (pSl (pVar 2) (pPart (pVar 4)) (pPart (pOp fAdd (pVar 4) (pC (.int 2))))))) (pSl (pVar 2) (pPart (pOp fAdd (pVar 4) (pC (.int 2)))) pNoPart))))
    pNext)
    (pSeq (pIfS (pTest (pOp fEq (pVar 3) (pC (.int 4))))
    (pSet 5 (pVal (pOp fIx (pLst (pCons (pC (.str "fill")) (pCons (pC (.str "cut")) pNil))) (pCB fInt1 (pCons (pOp fEq (pVar 5) (pC (.str "fill"))) pNil)))))
    pNext)
    (pRet (pVal (pOp fAdd (pOp fAdd (pSl (pVar 2) pNoPart (pPart (pVar 4))) (pLst (pCons (pTup (pCons (pVar 5) (pCons (pCB fMax2 (pCons (pC (.int 0)) (pCons (pOp fAdd (pVar 6) (pOp fIx (pLst (pCons (pC (.int 0)) (pCons (pC (.int 0)) (pCons (pC (.int 0)) (pCons (pC (.int 0)) (pCons (pC (.int 0)) (pCons (pC (.int 1)) (pCons (pUn fNeg (pC (.int 1))) pNil)))))))) (pVar 3))) pNil))) pNil))) pNil))) (pSl (pVar 2) (pPart (pOp fAdd (pVar 4) (pC (.int 1)))) pNoPart))))))))))
      (EB a C) [vo a zs1, some (.val d'), vW ws, vI r, none, none, none] := by
    intro d' _ r zs1 r0 r1 hB1
    refine ⟨zs1, rfl, rfl, _, ((windsD ws).length : Nat) + 1, by omega, hB1, rfl, by rw [windsD_len]; omega, by rw [windsD_len]; omega, fun q zs2 q0 q1 hB2 => ?_⟩
    rw [windsD_len] at q1
    obtain ⟨j, rfl⟩ := Int.eq_ofNat_of_zero_le q0
    have hj : j ≤ ws.length := by omega
    have insA : ∀ (zs2 : List D) (w5 w6 : Option Cell), Bx (n + 4) zs2 → (pRet (pVal (pOp fAdd (pOp fAdd (pSl (pVar 2) pNoPart (pPart (pVar 4))) (pLst (pCons (pTup (pCons (pOp fIx (pLst (pCons (pC (.str "cut")) (pCons (pC (.str "fill")) pNil))) (pFrz (pCallB 0 2 (g_take 100000000000000) (pCons (pC (.int 2)) pNil)))) (pCons (pFrz (pCallB 0 1 g__law_slope pNil)) pNil))) pNil))) (pSl (pVar 2) (pPart (pVar 4)) pNoPart)))) (EB a C) [vo a zs2, some (.val d'), vW ws, vI r, vI j, none, none] := by
      intro zs2 w5 w6 hB2
      refine ⟨two, zs2, rfl, rfl, _, 2, by omega, hB2, rfl, by decide, by decide, fun k zs3 k0 k1 hB3 => ?_⟩
      have fin : ∀ b : Bool, atI [D.str "cut", D.str "fill"] k = some (.str (wordS b)) → fIx (.lst [D.str "cut", D.str "fill"]) (.int k) fun z => pCallB 0 1 g__law_slope pNil [vo a zs3, some (.val d'), vW ws, vI r, vI j, none, none] fun c ρ2 => [z, c.froz].length ≤ sizeLine ∧ [D.tup [z, c.froz]].length ≤ sizeLine ∧ fAdd (.lst (cutD (windsD ws) none (some (j : Int)))) (.lst [.tup [z, c.froz]]) fun y => fAdd y (.lst (cutD (windsD ws) (some (j : Int)) none)) fun z => (EB a C).rt (.val z) ρ2 := by
        intro b hb
        refine ⟨_, hb, zs3, rfl, rfl, _, by omega, hB3, rfl, fun s zs4 s0 s1 hB4 => ⟨two, one, ?_⟩⟩
        rw [cut_to', cut_from']
        show fAdd (.lst (windsD (ws.take j))) (.lst (windsD [(b, s)])) _
        refine add3 (by rw [List.length_take, List.length_drop, List.length_singleton]; omega) ⟨zs4, rfl, hC _ zs4 (Nat.le_of_eq (ins_len ws j (b, s))) (((hw.take j).app (.one s0)).app (hw.drop j)) (hB4.mono (by omega))⟩
      by_cases z : k = 0
      · subst z; exact fin true rfl
      · have : k = 1 := by omega
        subst this; exact fin false rfl
    refine ⟨sh_int _, sh_int _, ifB (fun e => ?_) (fun e => ⟨sh_int _, sh_int _, ifB (fun e2 => ?_) (fun e2 => ?_)⟩)⟩
    · exact insA zs2 none none hB2
    · exact insA zs2 none none hB2
    · have hjl : j < ws.length := by
        have e2 : ((j : Int) == (((windsD ws).length : Nat) : Int)) = false := e2
        rw [windsD_len] at e2
        have : ¬ ((j : Int) = (ws.length : Int)) := by simpa using e2
        omega
      have hr0 : r ≠ 0 := by
        have e : (r == 0) = false := e
        simpa using e
      have hg : ws[j]? = some (ws[j]'hjl) := List.getElem?_eq_getElem _
      generalize ws[j]'hjl = w at hg
      have hw0 := hw w (List.mem_of_getElem? hg)
      have end5 : ∀ (c : Bool) (x : Int), atI [D.int 0, .int 0, .int 0, .int 0, .int 0, .int 1, .int (-1)] r = some (.int x) → (pRet (pVal (pOp fAdd (pOp fAdd (pSl (pVar 2) pNoPart (pPart (pVar 4))) (pLst (pCons (pTup (pCons (pVar 5) (pCons (pCB fMax2 (pCons (pC (.int 0)) (pCons (pOp fAdd (pVar 6) (pOp fIx (pLst (pCons (pC (.int 0)) (pCons (pC (.int 0)) (pCons (pC (.int 0)) (pCons (pC (.int 0)) (pCons (pC (.int 0)) (pCons (pC (.int 1)) (pCons (pUn fNeg (pC (.int 1))) pNil)))))))) (pVar 3))) pNil))) pNil))) pNil))) (pSl (pVar 2) (pPart (pOp fAdd (pVar 4) (pC (.int 1)))) pNoPart)))) (EB a C) [vo a zs2, some (.val d'), vW ws, vI r, vI j, vS c, vI w.2] := by
        intro c x hx
        have := hC (ws.take j ++ [(c, max 0 (w.2 + x))] ++ ws.drop (j + 1)) zs2 (by rw [List.length_append, List.length_append, List.length_take, List.length_drop, List.length_singleton]; omega) (((hw.take j).app (.one (by show 0 ≤ max 0 (w.2 + x); omega))).app (hw.drop _)) (hB2.mono (by omega))
        rw [← eqA ws j ((j : Int) + 1) (j + 1) (by omega)] at this
        exact ⟨by show (7 : Nat) ≤ sizeLine; decide, _, hx, two, one, szA hl _ _, szB hl _ _ _ (j + 1) (by omega), zs2, rfl, this⟩
      refine ⟨_, atW hg, rfl, rfl, ?_⟩
      refine ⟨sh_int _, sh_int _, ifB (fun e3 => ?_) (fun e3 => ?_)⟩
      · have := hC (ws.take j ++ ws.drop (j + 1)) zs2 (by rw [List.length_append, List.length_take, List.length_drop]; omega) ((hw.take j).app (hw.drop _)) (hB2.mono (by omega))
        rw [← eqB ws j ((j : Int) + 1) (j + 1) (by omega)] at this
        exact ⟨szC hl _ _ (j + 1) (by omega), zs2, rfl, this⟩
      refine ⟨sh_int _, sh_int _, ifB (fun e4 => ?_) (fun e4 => ?_)⟩
      · have := hC (ws.take j ++ [w] ++ ws.drop j) zs2 (Nat.le_of_eq (ins_len ws j w)) (((hw.take j).app (.one hw0)).app (hw.drop j)) (hB2.mono (by omega))
        rw [← eqA ws j (j : Int) j rfl] at this
        exact ⟨_, atW hg, one, szA hl _ _, szB hl _ _ _ j rfl, zs2, rfl, this⟩
      refine ⟨sh_int _, sh_int _, ifB (fun e5 => ?_) (fun e5 => ?_)⟩
      · have := hC (ws.take j ++ ((ws.drop j).take (j + 2 - j)).reverse ++ ws.drop (j + 2)) zs2 (by rw [List.length_append, List.length_append, List.length_take, List.length_drop, List.length_reverse, List.length_take, List.length_drop]; omega) (((hw.take j).app (fun v hv => (hw.drop j).take _ v (List.mem_reverse.mp hv))).app (hw.drop _)) (hB2.mono (by omega))
        rw [← eqR ws j ((j : Int) + 2) (j + 2) (by omega) (by omega)] at this
        obtain ⟨z1, z2⟩ := szR hl j ((j : Int) + 2) (j + 2) (by omega) (by omega)
        exact ⟨z1, z2, zs2, rfl, this⟩
      have hr : r = 4 ∨ r = 5 ∨ r = 6 := by
        have e3 : (r == 1) = false := e3
        have e4 : (r == 2) = false := e4
        have e5 : (r == 3) = false := e5
        have h1 : ¬ r = 1 := by simpa using e3
        have h2 : ¬ r = 2 := by simpa using e4
        have h3 : ¬ r = 3 := by simpa using e5
        omega
      refine ⟨sh_int _, sh_int _, ifB (fun e6 => ?_) (fun e6 => ?_)⟩
      · have e6 : r = 4 := by
          have e6 : (r == 4) = true := e6
          simpa using e6
        subst e6
        refine ⟨two, sh_word _, sh_fill, ?_⟩
        have ev : (D.str (wordS w.1)).eqv (.str "fill") = (w.1 == false) := eqv_word w.1 false
        rw [ev]
        cases h : w.1 with
        | true => exact ⟨D.str "fill", rfl, end5 false 0 rfl⟩
        | false => exact ⟨D.str "cut", rfl, end5 true 0 rfl⟩
      · rcases hr with rfl | rfl | rfl
        · exact end5 w.1 0 rfl
        · exact end5 w.1 1 rfl
        · exact end5 w.1 (-1) rfl
  rcases ha with rfl | rfl
  · exact ⟨xs, rfl, rfl, n, 7, by omega, hB, rfl, by decide, by decide, fun r zs1 r0 r1 hB1 => key _ rfl r zs1 r0 r1 hB1⟩
  · exact ⟨xs, rfl, rfl, n, 7, by omega, hB, rfl, by decide, by decide, fun r zs1 r0 r1 hB1 => key _ rfl r zs1 r0 r1 hB1⟩
end Pl
namespace Pl
open PySem PySem.Spec PyProof.Rows L2
mutual
def toL : D → D
  | .lst xs => .lst (toLs xs)
  | .tup xs => .lst (toLs xs)
  | .non => .non
  | .bl b => .bl b
  | .int i => .int i
  | .str z => .str z
  | .scr ns => .scr ns
  | .adr a => .adr a
  | .exc c y => .exc c y
def toLs : List D → List D
  | [] => []
  | x :: xs => toL x :: toLs xs
end
theorem toLs_map : ∀ xs : List D, toLs xs = xs.map toL
  | [] => by rw [toLs]; rfl
  | x :: xs => by rw [toLs, toLs_map xs]; rfl
def gL : Nat → FA
  | 0 => fun _ _ => False
  | n + 1 => fun ds C => ∃ d, ds = [d] ∧ okN n d ∧ C (.val (toL d))
theorem rd_lists (n : Nat) : ∀ ds C, ds.length = 1 → gL (n + 1) ds C → T__law_lists (gL n) (EA C) (startA N__law_lists ds) := by
  rintro ds C - ⟨d, rfl, hd, hC⟩
  have seq : ∀ (q : D) (xs : List D), okN n (.lst xs) → C (.val (.lst (toLs xs))) → lcW [1] (hName 1) pYes (pFrz (pCallA 1 (gL n) (pCons (pVar 1) pNil))) (fun acc ρ2 => C (.val (.lst acc))) xs [] [some (.val q), none] := by
    intro q xs hx hQ
    cases n with
    | zero => exact hx.elim
    | succ n =>
      refine lc_mp xs id toL (by simp) (fun x hx' K hK => ⟨rfl, x, rfl, hx.2 x hx', hK _ rfl⟩) hx.1 ?_
      rw [← toLs_map]; exact hQ
  cases d with
  | lst xs => rw [toL] at hC; exact seq _ xs hd hC
  | tup xs =>
    rw [toL] at hC
    refine seq _ xs ?_ hC
    cases n with
    | zero => exact hd.elim
    | succ n => exact hd
  | scr ns => cases n <;> exact hd.elim
  | adr a => cases n <;> exact hd.elim
  | exc _ _ => cases n <;> exact hd.elim
  | non => exact hC
  | bl b => exact hC
  | int i => exact hC
  | str z => exact hC
theorem toL_winds (ws : List Wd) : toL (.lst (windsD ws)) = .lst (ws.map fun w => .lst [.str (wordS w.1), .int w.2]) := by
  rw [toL, toLs_map]
  unfold windsD
  rw [List.map_map]
  congr 1
theorem AmW.tup (ws : List Wd) : AmW (.tup (windsD ws)) ws := Am.w (.inr rfl)
theorem okN_winds2 {cs : List Wd} (h : cs.length ≤ 1000) : okN 2 (.lst (windsD cs)) := ⟨by rw [windsD_len]; exact h, fun x hx => by
  obtain ⟨w, _, rfl⟩ := mem_windsD hx
  exact ⟨by show (2 : Nat) ≤ 1000; decide, fun y hy => by
    rcases List.mem_cons.mp hy with rfl | hy
    · exact sh_word _
    · rw [List.mem_singleton.mp hy]; trivial⟩⟩
end Pl
namespace Pl
open PySem PySem.Spec PyProof.Rows L2
def PwM (m : Int) (ws : List Wd) : Prop := ∀ w ∈ ws, 0 ≤ w.2 ∧ w.2 ≤ m
theorem PwM.take {m : Int} {ws : List Wd} (h : PwM m ws) (j : Nat) : PwM m (ws.take j) := fun w hw => h w (List.mem_of_mem_take hw)
theorem PwM.drop {m : Int} {ws : List Wd} (h : PwM m ws) (j : Nat) : PwM m (ws.drop j) := fun w hw => h w (List.mem_of_mem_drop hw)
theorem PwM.app {m : Int} {a b : List Wd} (h : PwM m a) (g : PwM m b) : PwM m (a ++ b) := fun w hw => by
  rcases List.mem_append.mp hw with q | q
  · exact h w q
  · exact g w q
theorem PwM.one {m : Int} {w : Wd} (h : 0 ≤ w.2 ∧ w.2 ≤ m) : PwM m [w] := fun v hv => by rw [List.mem_singleton.mp hv]; exact h
end Pl
namespace Pl
open PySem PySem.Spec PyProof.Rows L2
def wordR (w : Wo) : D := .lst [.str (wordS w.1), .int ((w.2.1 : Nat) : Int), .int ((w.2.2 : Nat) : Int)]
def wordsR (ws : List Wo) : List D := ws.map wordR
def WsR (d : D) (ws : List Wo) : Prop := d = .lst (wordsR ws) ∨ d = .tup (wordsR ws)
def g_are_contraryR : FA := fun ds C => ∃ u v, ds = [wordR u, wordR v] ∧ C (.val (.bl (contr u v)))
def g_least_aheadR : FA := fun ds C => ∃ d ws f, ds = [d, .int ((f : Nat) : Int)] ∧ WsR d ws ∧ ws.length ≤ 1000 ∧ C (.val (.int ((loN ws f : Nat) : Int)))
def g_most_aheadR : FA := fun ds C => ∃ d cuts e ws f, ds = [d, e, .int ((f : Nat) : Int)] ∧ Sq d cuts ∧ WsR e ws ∧ ws.length ≤ 1000 ∧ (∀ w ∈ ws, w.2.1 < cuts.length) ∧ C (.val (.int ((hiN cuts.length ws f : Nat) : Int)))
theorem rd_are_contraryR : ∀ ds C, ds.length = 2 → g_are_contraryR ds C → T_are_contrary { nx := fun _ => C (.val .non), rt := fun c _ => C c } (startA N_are_contrary ds) := by
  rintro ds C - ⟨⟨a, c, f⟩, ⟨a', c', f'⟩, rfl, hC⟩
  have h2 : (2 : Nat) ≤ sizeLine := by decide
  refine ⟨_, rfl, _, rfl, sh_word' a, sh_word' a', ?_⟩
  refine ifB (fun h => ?_) (fun h => ?_)
  · rw [show (D.str (wordS a)).eqv (.str (wordS a')) = _ from eqv_words' a a'] at h
    have h : a = a' := by simpa using h
    subst h
    have e : contr (a, c, f) (a, c', f') = false := by cases a <;> rfl
    rw [e] at hC
    exact hC
  · rw [show (D.str (wordS a)).eqv (.str (wordS a')) = _ from eqv_words' a a'] at h
    have h : a ≠ a' := by simpa using h
    refine ⟨_, rfl, sh_word' a, sh_cut, ?_⟩
    cases a with
    | true =>
      have e : a' = false := by cases a' <;> simp at h ⊢
      subst e
      refine ifT (show (D.str (wordS true)).eqv (.str (wordS true)) = true from eqv_words' true true) ⟨h2, rfl, rfl, ?_⟩
      have e : contr (true, c, f) (false, c', f') = (decide (c' ≤ c) && decide (f ≤ f')) := rfl
      rw [e] at hC
      refine ⟨_, rfl, _, rfl, ifB (fun q => ?_) (fun q => ?_)⟩
      · rw [bl_le] at q; rw [q] at hC
        refine ⟨_, rfl, _, rfl, ?_⟩
        show C (.val (.bl (decide (((f : Nat) : Int) ≤ ((f' : Nat) : Int)))))
        rw [bl_le]; exact hC
      · rw [bl_le] at q; rw [q] at hC; exact hC
    | false =>
      have e : a' = true := by cases a' <;> simp at h ⊢
      subst e
      refine ifF (show (D.str (wordS false)).eqv (.str (wordS true)) = false from eqv_words' false true) ⟨h2, rfl, rfl, ?_⟩
      have e : contr (false, c, f) (true, c', f') = (decide (c ≤ c') && decide (f' ≤ f)) := rfl
      rw [e] at hC
      refine ⟨_, rfl, _, rfl, ifB (fun q => ?_) (fun q => ?_)⟩
      · rw [bl_le] at q; rw [q] at hC
        refine ⟨_, rfl, _, rfl, ?_⟩
        show C (.val (.bl (decide (((f' : Nat) : Int) ≤ ((f : Nat) : Int)))))
        rw [bl_le]; exact hC
      · rw [bl_le] at q; rw [q] at hC; exact hC
theorem lcW_wordsR {vs : List Nat} {g : TGp} {tt : TTp} {te : TEp} {Q : List D → Ro → Prop} {p : Wo → Bool} {f : Wo → D} {ρ : Ro} : ∀ (ws : List Wo) (acc : List D),
    (∀ w ∈ ws, ∀ K : Bool → Ro → Prop, (∀ ρ3, restore ρ ρ3 vs = ρ → (p w = true → ∀ K2 : D → Ro → Prop, (∀ ρ4, restore ρ ρ4 vs = ρ → K2 (f w) ρ4) → te ρ3 K2) → K (p w) ρ3) → g (wordR w) (wipeP ρ vs) fun ρ2 => tt ρ2 K) → acc.length + ws.length ≤ 1000 → Q (acc ++ (ws.filter p).map f) ρ → lcW vs g tt te Q (wordsR ws) acc ρ
  | [], acc, _, _, hQ => by
    have hQ : Q (acc ++ []) ρ := hQ
    rw [List.append_nil] at hQ
    exact hQ
  | d :: ds, acc, h, hl, hQ => by
    have hl' : acc.length + (ds.length + 1) ≤ 1000 := hl
    refine h d (by simp) _ fun ρ3 e3 ht => ?_
    cases hp : p d with
    | true =>
      refine ite_ti (ht hp _ fun ρ4 e4 => ⟨small1000 (by omega), ?_⟩)
      rw [e4]
      refine lcW_wordsR ds _ (fun x hx => h x (by simp [hx])) (by rw [List.length_append]; show acc.length + 1 + ds.length ≤ 1000; omega) ?_
      rw [List.filter_cons_of_pos hp, List.map_cons] at hQ
      rw [List.append_assoc]
      exact hQ
    | false =>
      refine ite_fi ?_
      rw [e3]
      refine lcW_wordsR ds _ (fun x hx => h x (by simp [hx])) (by omega) ?_
      rw [List.filter_cons_of_neg (by rw [hp]; simp)] at hQ
      exact hQ
theorem rd_least_aheadR : ∀ ds C, ds.length = 2 → g_least_aheadR ds C → T_least_ahead { nx := fun _ => C (.val .non), rt := fun c _ => C c } (startA N_least_ahead ds) := by
  rintro ds C - ⟨d, ws, f, rfl, hd, hl, hC⟩
  have key : lcW [2, 3, 4] (hTup 3 (hCons (hName 2) (hCons (hName 3) (hCons (hName 4) hNil)))) (pAnd (pTest (pOp fEq (pVar 2) (pC (.str "cut")))) (pTest (pOp fLe (pVar 4) (pVar 1)))) (pOp fAdd (pVar 3) (pC (.int 1))) (fun acc ρ2 => ∃ ns, acc = ns.map D.int ∧ C (.val (bestDD max (.int 0) ns))) (wordsR ws) [] [some (.val d), some (.val (.int (f : Int))), none, none, none] := by
    refine lcW_wordsR (p := fun w => w.1 && decide (w.2.2 ≤ f)) (f := fun w => .int (((w.2.1 + 1 : Nat)) : Int)) ws [] (fun w _ K hK => ?_) (by simpa using hl) ?_
    · refine ⟨rfl, rfl, sh_word' w.1, sh_cut, ?_⟩
      refine ifB (fun h => ?_) (fun h => ?_)
      · have h : w.1 = true := by rw [show (D.str (wordS w.1)).eqv (.str "cut") = _ from eqv_words' w.1 true] at h; simpa using h
        have := hK [some (.val d), some (.val (.int (f : Int))), some (.val (.str (wordS w.1))), some (.val (.int ((w.2.1 : Nat) : Int))), some (.val (.int ((w.2.2 : Nat) : Int)))] rfl fun _ K2 hK2 => hK2 _ rfl
        rw [h] at this
        show K (decide (((w.2.2 : Nat) : Int) ≤ (f : Int))) _
        rw [bl_le, h]
        exact this
      · have h : w.1 = false := by rw [show (D.str (wordS w.1)).eqv (.str "cut") = _ from eqv_words' w.1 true] at h; simpa using h
        have := hK [some (.val d), some (.val (.int (f : Int))), some (.val (.str (wordS w.1))), some (.val (.int ((w.2.1 : Nat) : Int))), some (.val (.int ((w.2.2 : Nat) : Int)))] rfl fun _ K2 hK2 => hK2 _ rfl
        rw [h] at this
        rw [h]
        exact this
    · refine ⟨((ws.filter fun w => w.1 && decide (w.2.2 ≤ f)).map fun w => w.2.1 + 1).map fun (n : Nat) => (n : Int), ?_, ?_⟩
      · rw [List.nil_append, List.map_map, List.map_map]; rfl
      · rw [bestDD_max]; exact hC
  rcases hd with rfl | rfl <;> exact key
theorem rd_most_aheadR : ∀ ds C, ds.length = 3 → g_most_aheadR ds C → T_most_ahead { nx := fun _ => C (.val .non), rt := fun c _ => C c } (startA N_most_ahead ds) := by
  rintro ds C - ⟨d, cuts, e, ws, f, rfl, hd, he, hl, hw, hC⟩
  have key : ∀ Q : List D → Ro → Prop, Q ((ws.filter fun w => !w.1 && decide (f ≤ w.2.2)).map fun w => .int ((w.2.1 : Nat) : Int)) [some (.val d), some (.val e), some (.val (.int (f : Int))), none, none, none] → lcW [3, 4, 5] (hTup 3 (hCons (hName 3) (hCons (hName 4) (hCons (hName 5) hNil)))) (pAnd (pTest (pOp fEq (pVar 3) (pC (.str "fill")))) (pTest (pOp fGe (pVar 5) (pVar 2)))) (pVar 4) Q (wordsR ws) [] [some (.val d), some (.val e), some (.val (.int (f : Int))), none, none, none] := by
    intro Q hQ
    refine lcW_wordsR (p := fun w => !w.1 && decide (f ≤ w.2.2)) (f := fun w => .int ((w.2.1 : Nat) : Int)) ws [] (fun w _ K hK => ?_) (by simpa using hl) (by rw [List.nil_append]; exact hQ)
    refine ⟨rfl, rfl, sh_word' w.1, sh_fill, ?_⟩
    refine ifB (fun h => ?_) (fun h => ?_)
    · have h : w.1 = false := by rw [show (D.str (wordS w.1)).eqv (.str "fill") = _ from eqv_words' w.1 false] at h; simpa using h
      have := hK [some (.val d), some (.val e), some (.val (.int (f : Int))), some (.val (.str (wordS w.1))), some (.val (.int ((w.2.1 : Nat) : Int))), some (.val (.int ((w.2.2 : Nat) : Int)))] rfl fun _ K2 hK2 => hK2 _ rfl
      rw [h] at this
      show K (decide ((f : Int) ≤ ((w.2.2 : Nat) : Int))) _
      rw [bl_le, h]
      exact this
    · have h : w.1 = true := by rw [show (D.str (wordS w.1)).eqv (.str "fill") = _ from eqv_words' w.1 false] at h; simpa using h
      have := hK [some (.val d), some (.val e), some (.val (.int (f : Int))), some (.val (.str (wordS w.1))), some (.val (.int ((w.2.1 : Nat) : Int))), some (.val (.int ((w.2.2 : Nat) : Int)))] rfl fun _ K2 hK2 => hK2 _ rfl
      rw [h] at this
      rw [h]
      exact this
  have fin : C (.val (bestDD min (.int (((dI cuts).length : Nat) : Int)) (((ws.filter fun w => !w.1 && decide (f ≤ w.2.2)).map fun w => w.2.1).map fun (n : Nat) => (n : Int)))) := by
    rw [ints_len, bestDD_min]
    · exact hC
    · intro x hx
      obtain ⟨w, hm, rfl⟩ := List.mem_map.mp hx
      exact Nat.le_of_lt (hw w (List.mem_filter.mp hm).1)
  have e1 : ((ws.filter fun w => !w.1 && decide (f ≤ w.2.2)).map fun w => D.int ((w.2.1 : Nat) : Int)) = (((ws.filter fun w => !w.1 && decide (f ≤ w.2.2)).map fun w => w.2.1).map fun (n : Nat) => (n : Int)).map D.int := by
    rw [List.map_map, List.map_map]; rfl
  rcases hd with rfl | rfl <;> rcases he with rfl | rfl
  all_goals exact key _ ⟨_, e1, fin⟩
def wF : Bool → Wo → D
  | true => wordR
  | false => wordD
def wordsF (r : Bool) (ws : List Wo) : List D := ws.map (wF r)
theorem wordsF_len (r : Bool) (ws : List Wo) : (wordsF r ws).length = ws.length := by simp [wordsF]
def WsF (r : Bool) (d : D) (ws : List Wo) : Prop := d = .lst (wordsF r ws) ∨ d = .tup (wordsF r ws)
theorem atI_wordsF {r : Bool} {ws : List Wo} {j : Nat} {w : Wo} (h : ws[j]? = some w) : atI (wordsF r ws) ((j : Nat) : Int) = some (wF r w) := by
  refine atI_nat ?_
  unfold wordsF; rw [List.getElem?_map, h]; rfl
def g_are_contraryA : FA := fun ds C => ∃ r u v, ds = [wF r u, wF r v] ∧ C (.val (.bl (contr u v)))
theorem rd_are_contraryA : ∀ ds C, ds.length = 2 → g_are_contraryA ds C → T_are_contrary (EA C) (startA N_are_contrary ds) := by
  rintro ds C - ⟨r, u, v, rfl, hC⟩
  cases r
  · exact rd_are_contrary _ C rfl ⟨u, v, rfl, hC⟩
  · exact rd_are_contraryR _ C rfl ⟨u, v, rfl, hC⟩
def g_least_aheadA : FA := fun ds C => ∃ r d ws f, ds = [d, .int ((f : Nat) : Int)] ∧ WsF r d ws ∧ ws.length ≤ 1000 ∧ C (.val (.int ((loN ws f : Nat) : Int)))
theorem rd_least_aheadA : ∀ ds C, ds.length = 2 → g_least_aheadA ds C → T_least_ahead (EA C) (startA N_least_ahead ds) := by
  rintro ds C - ⟨r, d, ws, f, rfl, hd, hl, hC⟩
  cases r
  · exact rd_least_ahead _ C rfl ⟨d, ws, f, rfl, hd, hl, hC⟩
  · exact rd_least_aheadR _ C rfl ⟨d, ws, f, rfl, hd, hl, hC⟩
def g_most_aheadA : FA := fun ds C => ∃ r d cuts e ws f, ds = [d, e, .int ((f : Nat) : Int)] ∧ Sq d cuts ∧ WsF r e ws ∧ ws.length ≤ 1000 ∧ (∀ w ∈ ws, w.2.1 < cuts.length) ∧ C (.val (.int ((hiN cuts.length ws f : Nat) : Int)))
theorem rd_most_aheadA : ∀ ds C, ds.length = 3 → g_most_aheadA ds C → T_most_ahead (EA C) (startA N_most_ahead ds) := by
  rintro ds C - ⟨r, d, cuts, e, ws, f, rfl, hc, hd, hl, hb, hC⟩
  cases r
  · exact rd_most_ahead _ C rfl ⟨d, cuts, e, ws, f, rfl, hc, hd, hl, hb, hC⟩
  · exact rd_most_aheadR _ C rfl ⟨d, cuts, e, ws, f, rfl, hc, hd, hl, hb, hC⟩
def g_refuse_clashA : FA := fun ds C => ∃ r d ws, ds = [d] ∧ (WsF r) d ws ∧ NoClash ws ∧ ws.length ≤ 1000 ∧ C (.val .non)
def g_boundsA : FA := fun ds C => ∃ r d cuts e fills k ws, ds = [d, e, k] ∧ Sq d cuts ∧ Sq e fills ∧ (WsF r) k ws ∧ NoClash ws ∧ ws.length ≤ 1000 ∧ fills.length ≤ 900 ∧ InB cuts.length fills.length ws ∧ ∀ p, C (.own p ((bndL cuts.length fills.length ws).map bndD))
theorem rd_boundsA : ∀ ds C, ds.length = 3 → g_boundsA ds C → T_bounds g_refuse_clashA g_least_aheadA g_most_aheadA { nx := fun _ => C (.val .non), rt := fun c _ => C c } (startA N_bounds ds) := by
  rintro ds C - ⟨r, d, cuts, e, fills, k, ws, rfl, hd, he, hk, hn, hl, hfl, hb, hC⟩
  have h2 : (2 : Nat) ≤ sizeLine := by decide
  have key : lcW [3] (hName 3) pYes (pTup (pCons (pFrz (pCallA 2 g_least_aheadA (pCons (pVar 2) (pCons (pVar 3) pNil)))) (pCons (pFrz (pCallA 3 g_most_aheadA (pCons (pVar 0) (pCons (pVar 2) (pCons (pVar 3) pNil))))) pNil))) (fun acc ρ2 => ∀ p, C (.own p acc)) (rangeD 0 fills.length) [] [some (.val d), some (.val e), some (.val k), none] := by
    rw [rangeD_map]
    refine lcW_ints (h := fun f => bndD (loN ws f.toNat, hiN cuts.length ws f.toNat)) (fun x hx K hK => ?_) (by rw [List.length_map, List.length_range]; omega) (fun p => ?_)
    · obtain ⟨f, hf, rfl⟩ := mem_rng hx
      refine ⟨rfl, r, k, ws, f, rfl, hk, hl, rfl, r, d, cuts, k, ws, f, rfl, hd, hk, hl, fun w hw => (hb w hw).1, h2, hK _ rfl⟩
    · have := hC p
      unfold bndL at this
      rw [List.map_map] at this ⊢
      rw [← List.range_eq_range'] at this
      exact this
  have r1 : (-(2 ^ 62) : Int) ≤ (((dI fills).length : Nat) : Int) := by rw [ints_len]; omega
  have r2 : (((dI fills).length : Nat) : Int) < 2 ^ 62 := by rw [ints_len]; omega
  have r3 : (((dI fills).length : Nat) : Int).toNat = fills.length := by rw [ints_len]; omega
  refine ⟨rfl, r, k, ws, rfl, hk, hn, hl, ?_⟩
  rcases he with rfl | rfl
  · exact ⟨r1, r2, by rw [r3]; exact key⟩
  · exact ⟨r1, r2, by rw [r3]; exact key⟩
end Pl
namespace Pl
open PySem PySem.Spec PyProof.Rows L2
section
variable [TJ]
theorem xb_value (c : Str) (h : c ∈ (["Clash", "Against", "Unlike", "Astray", "BadText", "BadRow"] : List Str)) : xb c = .v := if_pos h
theorem xb_no : ∀ c ∈ (["NoPost", "NoOrder", "NoCore", "NoDeed"] : List Str), c ∉ (["Clash", "Against", "Unlike", "Astray", "BadText", "BadRow"] : List Str) ∧ c ≠ "TooMany" := by decide +kernel
theorem xb_lookup (c : Str) (h : c ∈ (["NoPost", "NoOrder", "NoCore", "NoDeed"] : List Str)) : xb c = .l := by
  unfold xb
  rw [if_neg (xb_no c h).1, if_neg (xb_no c h).2]
theorem xb_over : xb "TooMany" = .o := by
  unfold xb
  rw [if_neg (by decide +kernel), if_pos rfl]
def inS (st : Stmt) (j : Nat) : Stmt := match st with
  | .ClassDef _ _ _ body _ _ _ _ _ _ _ => body.getD j (.Pass ⟨0, 0, 0, 0⟩)
  | _ => .Pass ⟨0, 0, 0, 0⟩
abbrev xtl (c : Str) : List Value := (xb c).tl.map Value.type
structure XCl (K : PySem.W.Frag) (mg : Str → Option Value) (c : Str) (C : Addr) : Prop where
  cls : ∃ q N bs sn sub ab col dd k0 k1 k2 k3 k5, K.lookup C = some (excClassObj c q C N bs (xtl c) true sn sub ab col dd k0 k1 k2 k3 k5 (xb c).new)
  sa : PySem.W.findIn K (.ref C) "__setattr__" = some (some (.builtin "object.__setattr__"))
  exC : PySem.W.subIn K (.ref C) (.type "BaseException") = some true
  tyC : PySem.W.typeIn K (.ref C) = some (.type "type")
  kC : PySem.W.keepIn K (.ref C) = true
  ask : AskX K C
  ns : PySem.W.nsIn K mainGlobals c = some (some (.ref C))
  fno : PySem.W.findIn K (.ref C) (xfield c) = some none
  gm : mg c = some (.ref C)
section
variable {K : PySem.W.Frag} {mg : Str → Option Value} {c c2 : Str} {C C2 : Addr}
theorem XCl.own (T : XCl K mg c C) : OwnX K C (xb c).new (xtl c) := by
  obtain ⟨q, N, bs, sn, sub, ab, col, dd, k0, k1, k2, k3, k5, h⟩ := T.cls
  exact ⟨⟨c, q, N, bs, sn, sub, ab, col, dd, k0, k1, k2, k3, k5, h⟩, T.sa, T.exC, T.tyC, T.kC⟩
theorem XCl.same (T : XCl K mg c C) (h : PySem.W.nsIn K mainGlobals c = some (some (.ref C2))) : C2 = C := by
  rw [T.ns] at h
  cases h; rfl
theorem XCl.ne (T : XCl K mg c C) (T2 : XCl K mg c2 C2) (h : c ≠ c2) : C ≠ C2 := fun z => by
  obtain ⟨q, N, bs, sn, sub, ab, col, dd, k0, k1, k2, k3, k5, e⟩ := T.cls
  obtain ⟨q', N', bs', sn', sub', ab', col', dd', j0, j1, j2, j3, j5, e'⟩ := T2.cls
  subst z
  rw [e] at e'
  have z := Option.some.inj e'
  unfold excClassObj at z
  injection z with _ _ z _
  injection z with z
  injection z with z
  exact h z
theorem xtl_obj (c : Str) : (xtl c).contains (.type "object") = true := by
  unfold xtl
  cases xb c <;> decide +kernel
def isaX (c n : Str) : Bool := c == n || (xb c).tl.any fun s => Str.ofString s == n
theorem XCl.kit (T : XCl K mg c C) (T2 : XCl K mg c2 C2) (hb : ∀ b : XB, (b.tl.any fun s => Str.ofString s == c2) = false) : PySem.W.kitOne K (.ref C) (.ref C2) = some (isaX c c2) := by
  have e : isaX c c2 = (c == c2) := by unfold isaX; rw [hb, Bool.or_false]
  rw [e]
  unfold PySem.W.kitOne
  by_cases h : c = c2
  · subst h
    obtain rfl := T.same T2.ns
    rw [if_pos (by simp)]; simp
  · have ne : C ≠ C2 := T.ne T2 h
    have e1 : (Value.ref C == Value.ref C2) = false := by
      cases q : (Value.ref C == Value.ref C2) with
      | false => rfl
      | true => exact absurd (Value.ref.inj (beq_iff_eq.mp q)) ne
    have e2 : (c == c2) = false := by simpa using h
    rw [if_neg (by rw [e1]; decide), e2]
    obtain ⟨cd, h1, _⟩ := T2.own.cd
    show (if ((PySem.W.clsIn K C2).isSome && PySem.W.typeIn K (.ref C2) == some (.type "type")) = true then PySem.W.subIn K (.ref C) (.ref C2) else none) = some false
    rw [h1, T2.tyC, if_pos (by rfl)]
    show PySem.W.mroIn K C (.ref C2) = some false
    rw [T.own.mro, e1, Bool.false_or]
    unfold xtl
    cases xb c <;> rfl
theorem XCl.kitB (T : XCl K mg c C) {n : String} (hc : c ≠ Str.ofString n) (hm : PySem.W.kitMeta n = true) (hb : ∀ b : XB, (b.tl.map Value.type).contains (.type n) = b.tl.any fun s => Str.ofString s == Str.ofString n) : PySem.W.kitOne K (.ref C) (.type n) = some (isaX c (Str.ofString n)) := by
  have e2 : (c == Str.ofString n) = false := by simpa using hc
  have e : isaX c (Str.ofString n) = ((xb c).tl.any fun s => Str.ofString s == Str.ofString n) := by unfold isaX; rw [e2, Bool.false_or]
  rw [e]
  unfold PySem.W.kitOne
  rw [if_neg (by rw [show (Value.ref C == Value.type n) = false from rfl]; decide)]
  show (if PySem.W.kitMeta n = true then PySem.W.subIn K (.ref C) (.type n) else none) = _
  rw [if_pos hm]
  show PySem.W.mroIn K C (.type n) = _
  rw [T.own.mro, ← hb]
  show some (false || _) = _
  rw [Bool.false_or]
theorem XCl.exm (T : XCl K mg c C) (T2 : XCl K mg c2 C2) (hb : ∀ b : XB, (b.tl.any fun s => Str.ofString s == c2) = false) : PySem.W.exmOne K (.ref C) (.ref C2) = some (c == c2) := by
  unfold PySem.W.exmOne
  rw [T2.exC, if_pos (by rfl)]
  obtain ⟨cd, h1, _⟩ := T2.own.cd
  show (if ((PySem.W.clsIn K C2).isSome && PySem.W.typeIn K (.ref C2) == some (.type "type")) = true then PySem.W.subIn K (.ref C) (.ref C2) else none) = _
  rw [h1, T2.tyC, if_pos (by rfl)]
  show PySem.W.mroIn K C (.ref C2) = _
  rw [T.own.mro]
  have z : (xtl c).contains (.ref C2) = false := by unfold xtl; cases xb c <;> rfl
  rw [z, Bool.or_false]
  by_cases h : c = c2
  · subst h
    obtain rfl := T.same T2.ns
    simp
  · have e2 : (c == c2) = false := by simpa using h
    rw [e2]
    cases q : (Value.ref C == Value.ref C2) with
    | false => rfl
    | true => exact absurd (Value.ref.inj (beq_iff_eq.mp q)) (T.ne T2 h)
end
def XCs (K : PySem.W.Frag) (mg : Str → Option Value) (cs : List Str) : Prop := ∀ c ∈ cs, ∃ C, XCl K mg c C
theorem xcs_nil {K : PySem.W.Frag} {mg : Str → Option Value} : XCs K mg [] := fun _ h => nomatch h
theorem xcs_cons {K : PySem.W.Frag} {mg : Str → Option Value} {c : Str} {C : Addr} {cs : List Str} (h : XCl K mg c C) (t : XCs K mg cs) : XCs K mg (c :: cs) := fun x hx => by
  rcases List.mem_cons.mp hx with rfl | hx
  · exact ⟨C, h⟩
  · exact t x hx
theorem exmAny_of {K : PySem.W.Frag} {cls : Value} : ∀ {us : List Value} {bs : List Bool}, us.length = bs.length → (∀ (i : Nat) u b, us[i]? = some u → bs[i]? = some b → PySem.W.exmOne K cls u = some b) → PySem.W.exmAny K cls us = some (bs.any id)
  | [], [], _, _ => rfl
  | u :: us, b :: bs, hl, h => by
    have h0 := h 0 u b rfl rfl
    have ih := exmAny_of (us := us) (bs := bs) (by simpa using hl) fun i v c e1 e2 => h (i + 1) v c e1 e2
    show (match PySem.W.exmOne K cls u, PySem.W.exmAny K cls us with | some b, some d => some (b || d) | _, _ => none) = _
    rw [h0, ih]
    rfl
section
variable {X : Cx} {c1 c2 c3 c4 : Str} {C1 C2 C3 C4 C : Addr} {p1 p2 p3 p4 tp : Pos} {kk : Nat}
abbrev HitOk (X : Cx) (cs : List Str) (tt : Expr) : Prop := ∀ C, (∃ c ∈ cs, PySem.W.nsIn X.K mainGlobals c = some (some (.ref C))) → Hits X tt (.ref C)
abbrev noB (n : Str) : Prop := ∀ b : XB, (b.tl.any fun s => Str.ofString s == n) = false
theorem named_of (T : XCl X.K X.mg c1 C1) (hg : Gl X c1) (hd : (c1 == ("__debug__" : Str)) = false) : Named X c1 C1 := ⟨hg, hd, T.gm⟩
theorem hit3 (T1 : XCl X.K X.mg c1 C1) (T2 : XCl X.K X.mg c2 C2) (T3 : XCl X.K X.mg c3 C3) (g1 : Gl X c1) (g2 : Gl X c2) (g3 : Gl X c3) (n1 : noB c1 := by intro b; cases b <;> decide +kernel) (n2 : noB c2 := by intro b; cases b <;> decide +kernel) (n3 : noB c3 := by intro b; cases b <;> decide +kernel)
    (d1 : (c1 == ("__debug__" : Str)) = false := by decide) (d2 : (c2 == ("__debug__" : Str)) = false := by decide) (d3 : (c3 == ("__debug__" : Str)) = false := by decide) : HitOk X [c1, c2, c3] (.Tuple [.Name c1 p1, .Name c2 p2, .Name c3 p3] kk tp) := fun C ⟨c, hc, e⟩ => by
  have key : ∀ (T : XCl X.K X.mg c C), c ∈ [c1, c2, c3] → PySem.W.exmAny X.K (.ref C) [.ref C1, .ref C2, .ref C3] = some true := fun T hc => by
    rw [exmAny_of (bs := [c == c1, c == c2, c == c3]) rfl fun i u b e1 e2 => by
      match i, e1, e2 with
      | 0, e1, e2 => cases e1; cases e2; exact T.exm T1 n1
      | 1, e1, e2 => cases e1; cases e2; exact T.exm T2 n2
      | 2, e1, e2 => cases e1; cases e2; exact T.exm T3 n3]
    simp only [List.mem_cons, List.not_mem_nil, or_false] at hc
    rcases hc with rfl | rfl | rfl <;> simp
  simp only [List.mem_cons, List.not_mem_nil, or_false] at hc
  refine hits3 (named_of T1 g1 d1) (named_of T2 g2 d2) (named_of T3 g3 d3) ?_
  rcases hc with rfl | rfl | rfl
  · obtain rfl := T1.same e; exact key T1 (by simp)
  · obtain rfl := T2.same e; exact key T2 (by simp)
  · obtain rfl := T3.same e; exact key T3 (by simp)
end
structure ItX (X : Cx) (cs : List Str) (n : Str) (v : V) : Prop where
  ex : ∃ u, ClsV v u ∧ ∀ c ∈ cs, ∀ C, XCl X.K X.mg c C → PySem.W.kitOne X.K (.ref C) u = some (isaX c n)
  pe : ∀ pos, PE X (.Name n pos) (tC v)
section
variable {X : Cx} {cs : List Str}
theorem itx_own {n : Str} {C2 : Addr} (T2 : XCl X.K X.mg n C2) (hg : Gl X n) (hn : noB n := by intro b; cases b <;> decide +kernel) (hd : (n == ("__debug__" : Str)) = false := by decide) : ItX X cs n (.ref C2) :=
  ⟨⟨.ref C2, .own C2, fun c _ C T => T.kit T2 hn⟩, fun pos => pe_glob hg T2.gm rfl hd⟩
theorem itx_blt {n : String} (hg : Gl X (Str.ofString n)) (hm : X.mg (Str.ofString n) = none) (hcs : ∀ c ∈ cs, c ≠ Str.ofString n := by decide) (hk : PySem.W.kitMeta n = true := by decide +kernel)
    (hb : ∀ b : XB, (b.tl.map Value.type).contains (.type n) = b.tl.any (fun s => Str.ofString s == Str.ofString n) := by intro b; cases b <;> decide +kernel) (hv : bootBuiltins (Str.ofString n) = some (.type n) := by decide +kernel)
    (hnn : Str.ofString n ≠ "__name__" := by decide) (hd : (Str.ofString n == ("__debug__" : Str)) = false := by decide) : ItX X cs (Str.ofString n) (.ty n) :=
  ⟨⟨.type n, .ty n, fun c hc C T => T.kitB (hcs c hc) hk hb⟩, fun pos => pe_bltn hg hm hv rfl hnn hd⟩
def isXw (cs ns : List Str) (d : D) (k : Bool → Prop) : Prop := match d with
  | .exc c _ => c ∈ cs ∧ k (ns.any (isaX c))
  | _ => False
def pIsX (cs ns : List Str) (Te : TEp) : TEp := fun ρ Q => Te ρ fun d ρ1 => isXw cs ns d fun b => Q (.bl b) ρ1
variable {e : Expr} {te : TE} {Te : TEp} {pos fp : Pos} {n1 n2 n3 : Str} {v1 v2 v3 : V} {q1 q2 q3 tp : Pos} {kk : Nat}
theorem isX_look {K : PySem.W.Frag} {F H : Hp} {v : V} {d : D} {cs ns : List Str} {k : Bool → Prop} (r : Rep K F v d) (h : isXw cs ns d k) : ∃ (a C dd : Addr) (w : V) (c : Str), v = .ref a ∧ F a = some (exk a C dd) ∧ F dd = some (.xd [(xfield c, w)]) ∧ PySem.W.nsIn K mainGlobals c = some (some (.ref C)) ∧ c ∈ cs ∧ k (ns.any (isaX c)) := by
  cases r with
  | exc h1 h2 h3 h4 => exact ⟨_, _, _, _, _, rfl, h2, h3, h1, h.1, h.2⟩
  | _ => exact h.elim
theorem ppe_isX (Zc : XCs X.K X.mg cs) (I1 : ItX X cs n1 v1) (hg : Gl X "isinstance") (hm : X.mg "isinstance" = none) (he : PPE X e te Te)
    (hs : starEach [e, .Name n1 q1] X.env = (false, eval e X.env) :: starEach [.Name n1 q1] X.env := by rfl) (hs2 : starEach [.Name n1 q1] X.env = (false, eval (.Name n1 q1) X.env) :: starEach [] X.env := by rfl) (hpl : (backTo pos (starEach [.Name n1 q1] X.env)).any (·.1) = false := by rfl) :
    PPE X (.Call (.Name "isinstance" fp) [e, .Name n1 q1] [] pos) (tCB (rIsX X.K) (tCons te (tCons (tC v1) tNil))) (pIsX cs [n1] Te) :=
  ⟨pe_callB call_isX hg hm (by decide +kernel) (pa_cons he.pe (pa_cons (I1.pe q1) pa_nil hs2) hs) (by decide) (by decide) hs hpl, fun G F H σ ρ Q R S hT k =>
    he.snd G F H σ ρ _ _ S hT fun v d F1 H1 ρ1 u1 S1 r1 h1 => by
      obtain ⟨a, C, dd, w, c, rfl, e1, e2, e3, hc, q⟩ := isX_look (H := H1) r1 h1
      obtain ⟨C', T⟩ := Zc c hc
      obtain rfl := T.same e3
      obtain ⟨u, cv, hk⟩ := I1.ex
      have hk := hk c hc C T
      refine ⟨a, C, dd, _, _, _, v1, u, _, rfl, S1.hF _ _ e1, S1.hF _ _ e2, T.own, xtl_obj c, T.ask, cv, hk, k _ _ F1 H1 ρ1 u1 S1 (.bl _) ?_⟩
      have q' := q
      simp only [List.any_cons, List.any_nil, Bool.or_false] at q'
      exact q'⟩
theorem ppe_isX2 (Zc : XCs X.K X.mg cs) (I1 : ItX X cs n1 v1) (I2 : ItX X cs n2 v2) (hg : Gl X "isinstance") (hm : X.mg "isinstance" = none) (he : PPE X e te Te)
    (hs : starEach [e, .Tuple [.Name n1 q1, .Name n2 q2] kk tp] X.env = (false, eval e X.env) :: starEach [.Tuple [.Name n1 q1, .Name n2 q2] kk tp] X.env := by rfl) (hs2 : starEach [.Tuple [.Name n1 q1, .Name n2 q2] kk tp] X.env = (false, eval (.Tuple [.Name n1 q1, .Name n2 q2] kk tp) X.env) :: starEach [] X.env := by rfl)
    (hs3 : starEach [.Name n1 q1, .Name n2 q2] X.env = (false, eval (.Name n1 q1) X.env) :: starEach [.Name n2 q2] X.env := by rfl) (hs4 : starEach [.Name n2 q2] X.env = (false, eval (.Name n2 q2) X.env) :: starEach [] X.env := by rfl)
    (hpl : (backTo pos (starEach [.Tuple [.Name n1 q1, .Name n2 q2] kk tp] X.env)).any (·.1) = false := by rfl) :
    PPE X (.Call (.Name "isinstance" fp) [e, .Tuple [.Name n1 q1, .Name n2 q2] kk tp] [] pos) (tCB (rIsXT X.K) (tCons te (tCons (tTup (tCons (tC v1) (tCons (tC v2) tNil))) tNil))) (pIsX cs [n1, n2] Te) :=
  ⟨pe_callB call_isXT hg hm (by decide +kernel) (pa_cons he.pe (pa_cons (pe_tup (pa_cons (I1.pe q1) (pa_cons (I2.pe q2) pa_nil hs4) hs3)) pa_nil hs2) hs) (by decide) (by decide) hs hpl, fun G F H σ ρ Q R S hT k =>
    he.snd G F H σ ρ _ _ S hT fun v d F1 H1 ρ1 u1 S1 r1 h1 => by
      obtain ⟨a, C, dd, w, c, rfl, e1, e2, e3, hc, q⟩ := isX_look (H := H1) r1 h1
      obtain ⟨C', T⟩ := Zc c hc
      obtain rfl := T.same e3
      obtain ⟨u, cv, hk⟩ := I1.ex
      obtain ⟨u2, cv2, hk2⟩ := I2.ex
      refine ⟨by show (2 : Nat) ≤ sizeLine; decide, fun p hp => ?_⟩
      have sm := same_new (o := HO.tup [v1, v2]) hp
      refine ⟨a, C, dd, p, _, _, _, [v1, v2], [u, u2], _, rfl, sm _ _ (S1.hF _ _ e1), sm _ _ (S1.hF _ _ e2), T.own, xtl_obj c, T.ask, upd_same, .cons cv (.cons cv2 .nil), ?_, k _ _ F1 _ ρ1 u1 (S1.more hp) (.bl _) q⟩
      exact kitAny_cons (hk c hc C T) (fun h => kitAny_cons (hk2 c hc C T) (fun h2 => by rw [kitAny_nil]; simp [List.any, h, h2]) fun h2 => by simp [List.any, h2]) fun h => by simp [List.any, h]⟩
def pXf (cs : List Str) (f : Str) (Te : TEp) : TEp := fun ρ Q => Te ρ fun d ρ1 => match d with
  | .exc c y => c ∈ cs ∧ xfield c = f ∧ Q y ρ1
  | _ => False
theorem ppe_xf {f : Str} (Zc : XCs X.K X.mg cs) (he : PPE X e te Te) (hb : attributeBase e f X.env (eval e X.env) = eval e X.env := by rfl) : PPE X (.Attribute e f pos) (tXfk X.K f te) (pXf cs f Te) :=
  ⟨pe_xfk he.pe hb, fun G F H σ ρ Q R S hT k => he.snd G F H σ ρ _ _ S hT fun v d F1 H1 ρ1 u1 S1 r1 h1 => by
    cases r1 with
    | @exc a C dd w c y e3 e1 e2 rw' =>
      obtain ⟨hc, hf, q⟩ := h1
      obtain ⟨C', T⟩ := Zc c hc
      obtain rfl := T.same e3
      refine ⟨a, C, dd, _, _, _, w, rfl, S1.hF _ _ e1, S1.hF _ _ e2, T.own, T.ask, by rw [← hf]; exact T.fno, by simp [List.lookup, hf], k w y F1 H1 ρ1 u1 S1 rw' q⟩
    | _ => exact h1.elim⟩
end
end
def RdI (K : PySem.W.Frag) (C : Addr) (ok : D → Prop) (te : TE) : Prop := ∀ (F H : Hp) (a : Addr) (v : V) (d : D) (Q : VK), Same F H → F a = none → H a = some (exo a C none) → Rep K F v d → ok d →
  (∀ v' F' H', Up H F F' → Same F' H' → Same H H' → Rep K F' v' d → Q v' H') → te [some (.ref a), some v] H Q
theorem rdi_var {K : PySem.W.Frag} {C : Addr} {ok : D → Prop} : RdI K C ok (tVar 1) := fun F H a v d Q hF _ _ r _ k => ⟨v, rfl, k v F H (.refl _ _) hF (.refl H) r⟩
theorem rdi_call {K : PySem.W.Frag} {C : Addr} {ok : D → Prop} {g : FA} (hg : ∀ d, ok d → ∀ P : Cell → Prop, (∀ c, c.froz = d → P c) → g [d] P) : RdI K C ok (tCall (spA K 1 g) [] (fun _ _ _ => False) (tCons (tVar 1) tNil)) := fun F H a v d Q hF fa ea r ho k => by
  refine ⟨v, rfl, ?_⟩
  show spA K 1 g ([v] ++ []) H Q fun _ _ _ => False
  refine ⟨F, [d], fun c => c.froz = d, rfl, hF, .cons r .nil, hg d ho _ fun c h => h, fun w c F' H' u S e => ?_⟩
  obtain ⟨F2, u2, S2, r2⟩ := Sim.froz (σ := []) (ρ := []) S.sim
  rw [e] at r2
  exact k w F2 H' (u.trans u2) S2.hF S2.hG r2
section
variable {P : Program} {w : World} {K : PySem.W.Frag} {mg : Str → Option Value} {base : Heap} {c : Str} {C : Addr} {x qual m p : Str} {st : Stmt} {f : Addr} {fd : FuncData} {k : Nat} {ok : D → Prop}
theorem ok_init (Fn : Fun K x qual st f fd) (S : FnScope ["self", p] ["self", p] (defScope st)) (T : XCl K mg c C)
    (hb : ∀ (cdv : Value) (A : Around) (outer : List Env) (s : Shared) (H : Hp) (E : XK), Room k (A.deeper (envOfC qual (defScope st) s.heap.objs.size f cdv)) → ∃ te, RdI K C ok te ∧
      PSs (cxOf CX0 P w K mg base ["self", p] qual (defScope st) f cdv A outer s H E).nox (defBody st) (tSeq (tDrop (tOyI K (xb c).new (xtl c) (tCons (tVar 0) (tCons (tC (.str m)) tNil)))) (tOyS K (xb c).new (xtl c) (xfield c) (tVar 0) te))) :
    FnOk P w K mg base CX0 (k + 1) f fd ["self", p] (spI K c C ok) := by
  refine Fn.ok S (fun vs H Q E h => ?_) (fun cdv A outer s H vs Q E hr h => ?_)
  · obtain ⟨F, a, v, d, rfl, _⟩ := h
    rfl
  · obtain ⟨te, hte, ht⟩ := hb cdv A outer s H E hr
    refine ⟨_, ht, ?_⟩
    obtain ⟨F, a, v, d, rfl, ea, fa, hF, r, ho, k'⟩ := h
    refine ⟨.ref a, rfl, a, C, [.str m], rfl, by show (1 : Nat) ≤ 1000; decide, T.own, ea, ?_⟩
    refine hte F H a v d _ hF fa ea r ho fun v' F' H' u sF sH r' => ?_
    refine ⟨.ref a, rfl, a, C, rfl, T.own, T.fno, sH _ _ ea, fun dx nd ne => ?_⟩
    have Hd : H dx = none := sH.free nd
    refine k' dx v' F' _ upd_same (by rw [upd_ne ne, upd_same]) Hd ne u (sF.free nd) (fun b o nb q => ?_) (fun b o nb q => ?_) r'
    · rw [upd_ne nb, upd_ne (ne_of_none (sF _ _ q) nd)]; exact sF _ _ q
    · rw [upd_ne nb, upd_ne (ne_of_none (sH _ _ q) nd)]; exact sH _ _ q
end
end Pl
namespace Pl
open PySem PySem.Spec PyProof.Rows L2
def TX_bounds (g_refuse_clash : FA) (g_least_ahead : FA) (g_most_ahead : FA) (gx_refuse_clash : FX) : TXs :=
  (xSeq (xOr (pDrop (pFrz (pCallA 1 g_refuse_clash (pCons (pVar 2) pNil))))
    (xE (xCall 1 gx_refuse_clash (pCons (pVar 2) pNil))))
    (xOk (pRet (pLcO (jRng1 (pCons (pLenO 1) pNil)) (hName 3) pYes (pTup (pCons (pFrz (pCallA 2 g_least_ahead (pCons (pVar 2) (pCons (pVar 3) pNil)))) (pCons (pFrz (pCallA 3 g_most_ahead (pCons (pVar 0) (pCons (pVar 2) (pCons (pVar 3) pNil))))) pNil))) [3]))))
def TX_order_at (g_ways_on : FA) (gx_ways_on : FX) (ok_NoOrder : D → Prop) : TXs :=
  (xSeq (xOr (pSet 4 (pCallA 3 g_ways_on (pCons (pVar 0) (pCons (pVar 1) (pCons (pVar 2) pNil)))))
    (xE (xCall 3 gx_ways_on (pCons (pVar 0) (pCons (pVar 1) (pCons (pVar 2) pNil))))))
    (xSeq (xIfS (pNot (pTest (pChain fLe fLt (pC (.int 0)) (pVar 3) (pOp fIx (pIxO 4 (pC (.int 0))) (pC (.int 0))))))
    (xRaise "NoOrder" ok_NoOrder (pCons (pVar 3) pNil))
    xNext)
    (xSeq (xOk (pSet 5 (pLstO pNil)))
    (xSeq (xOk (pSet 6 (pVal (pC (.int 0)))))
    (xSeq (xOk (pSet 7 (pVal (pC (.int 0)))))
    (xSeq (xOk (pSet 8 (pVal (pVar 3))))
    (xSeq (xOk (pWhile (pOr (pTest (pOp fLt (pVar 6) (pLenO 0))) (pTest (pOp fLt (pVar 7) (pLenO 1))))
    (pSeq (pSet 9 (pVal (pOp fIx (pIxO 4 (pVar 7)) (pOp fAdd (pVar 6) (pC (.int 1))))))
    (pIfS (pTest (pOp fLt (pVar 8) (pVar 9)))
    (pSeq (pAppend 5 (pC (.str "c")))
    (pAugI 6 (fun i j => i + j) (pC (.int 1))))
    (pSeq (pAppend 5 (pC (.str "f")))
    (pSeq (pAugI 7 (fun i j => i + j) (pC (.int 1)))
    (pAugI 8 (fun i j => i - j) (pVar 9))))))))
    (xOk (pRet (pVal (pJoin (pC (.str "")) (pVar 5))))))))))))
def TX_refuse_clash (g_first_clash : FA) (ok_Clash : D → Prop) : TXs :=
  (xSeq (xOk (pSet 1 (pCallA 1 g_first_clash (pCons (pVar 0) pNil))))
    (xIfS (pTest (pOp fNotN (pVar 1) (pC .non)))
    (xRaise "Clash" ok_Clash (pCons (pVar 1) pNil))
    xNext))
def TX_ways_on (g_bounds : FA) (g_ways_ahead : FA) (gx_bounds : FX) : TXs :=
  (xSeq (xOk (pSet 3 (pLstO (pCons (pOp fAdd (pOp fRep (pLst (pCons (pC (.int 1)) pNil)) (pOp fAdd (pLenO 0) (pC (.int 1)))) (pLst (pCons (pC (.int 0)) pNil))) pNil))))
    (xSeq (xOr (pFor (jSeq (pUn fRev (pFrz (pCallA 3 g_bounds (pCons (pVar 0) (pCons (pVar 1) (pCons (pVar 2) pNil))))))) (hTup 2 (hCons (hName 4) (hCons (hName 5) hNil)))
    (pAppend 3 (pFrz (pCallA 3 g_ways_ahead (pCons (pIxO 3 (pUn fNeg (pC (.int 1)))) (pCons (pVar 4) (pCons (pVar 5) pNil)))))))
    (xE (xCall 3 gx_bounds (pCons (pVar 0) (pCons (pVar 1) (pCons (pVar 2) pNil))))))
    (xOk (pRet (pVal (pUn fRev (pVar 3)))))))
end Pl
namespace Pl
open PySem PySem.Spec PyProof.Rows L2
abbrev EX (C : XD → Prop) : XP := fun x _ => C x
abbrev E0 : PEnds := { nx := fun _ => False, rt := fun _ _ => False }
end Pl
namespace Pl
open PySem PySem.Spec PyProof.Rows L2
theorem fr_rgo {g : TGp} {tb : TSp} {P : PEnds} {ρ : Ro} {lo : Int} {m : Nat} (n : Nat) (I : Nat → Ro → Prop) (e : m = n) (h0 : I 0 ρ) (hs : ∀ (j : Nat) (ρ : Ro) (K : Ro → Prop), j < n → I j ρ → (∀ ρ', I (j + 1) ρ' → K ρ') → g (.int (lo + (j : Int))) ρ fun ρ1 => tb { P with nx := K, ct := K, bk := P.nx } ρ1) (he : ∀ ρ, I n ρ → P.nx ρ) : forW g tb P (rangeD lo m) ρ := by
  subst e
  refine fr_mp (List.range m) (fun (t : Nat) => D.int (lo + (t : Int))) (fun r ρ => ∃ t, r = List.range' t (m - t) ∧ t ≤ m ∧ I t ρ) rfl ⟨0, by rw [List.range_eq_range']; rfl, Nat.zero_le _, h0⟩ (fun x r ρ K hI hK => ?_) (fun ρ hI => ?_)
  · obtain ⟨t, e, ht, hI⟩ := hI
    obtain ⟨k, hk⟩ : ∃ k, m - t = k + 1 := ⟨m - t - 1, by
      cases q : m - t with
      | zero => rw [q] at e; cases e
      | succ k => rfl⟩
    rw [hk, List.range'_succ] at e
    obtain ⟨rfl, rfl⟩ := List.cons.inj e
    exact hs x ρ K (by omega) hI fun ρ' h => hK _ ⟨x + 1, by rw [show m - (x + 1) = k by omega], by omega, h⟩
  · obtain ⟨t, e, ht, hI⟩ := hI
    have : t = m := by
      cases q : m - t with
      | zero => omega
      | succ k => rw [q] at e; cases e
    subst this
    exact he ρ hI
def PairsFree (ws : List Wo) (i j : Nat) : Prop := ∀ (a b : Nat) (u v : Wo), a < b → ws[a]? = some u → ws[b]? = some v → (a < i ∨ a = i ∧ b < j) → contr u v = false
structure CW (ws : List Wo) (i j : Nat) : Prop where
  lt : i < j
  ex : ∃ u v, ws[i]? = some u ∧ ws[j]? = some v ∧ contr u v = true
  free : PairsFree ws i j
def NoPair (ws : List Wo) : Prop := ∀ (a b : Nat) (u v : Wo), a < b → ws[a]? = some u → ws[b]? = some v → contr u v = false
def plD (i j : Nat) : D := .tup [.int ((i : Nat) : Int), .int ((j : Nat) : Int)]
def g_first_clashG : FA := fun ds C => ∃ r d ws, ds = [d] ∧ (WsF r) d ws ∧ ws.length ≤ 1000 ∧ (∀ i j, CW ws i j → C (.val (plD i j))) ∧ (NoPair ws → C (.val .non))
theorem rd_first_clashG : ∀ ds C, ds.length = 1 → g_first_clashG ds C → T_first_clash g_are_contraryA (EA C) (startA N_first_clash ds) := by
  rintro ds C - ⟨r, d, ws, rfl, hd, hl, hF, hN⟩
  have ix : ∀ {j : Nat} {w : Wo} {Q : D → Prop}, ws[j]? = some w → Q (wF r w) → fIx d (.int ((j : Nat) : Int)) Q := by
    intro j w Q hj hq
    rcases hd with rfl | rfl
    · exact ⟨_, atI_wordsF hj, hq⟩
    · exact ⟨_, atI_wordsF hj, hq⟩
  have len : ∀ (Q : Int → Prop), Q (ws.length : Nat) → (match d with | .lst xs => Q ((xs.length : Nat) : Int) | .tup xs => Q ((xs.length : Nat) : Int) | _ => False) := by
    intro Q hQ
    rcases hd with rfl | rfl
    · show Q (((wordsF r ws).length : Nat) : Int); rw [wordsF_len]; exact hQ
    · show Q (((wordsF r ws).length : Nat) : Int); rw [wordsF_len]; exact hQ
  have key : ∀ (P : PEnds), (∀ ρ, NoPair ws → P.nx ρ) → (∀ i j ρ, CW ws i j → P.rt (.val (plD i j)) ρ) → forW (hName 1) (pFor (jRng2 (pCons (pOp fAdd (pVar 1) (pC (.int 1))) (pCons (pLenO 0) pNil))) (hName 2) (pIfS (pTest (pFrz (pCallA 2 g_are_contraryA (pCons (pIxO 0 (pVar 1)) (pCons (pIxO 0 (pVar 2)) pNil))))) (pRet (pVal (pTup (pCons (pVar 1) (pCons (pVar 2) pNil))))) pNext)) P (rangeD 0 ws.length) [some (.val d), none, none] := by
    intro P hP hR
    refine fr_rg ws.length (fun i ρ => PairsFree ws i 0 ∧ ∃ w1 w2, ρ = [some (.val d), w1, w2]) rfl ⟨fun a b u v _ _ _ h => by omega, _, _, rfl⟩ (fun i ρ K hi hI hK => ?_) (fun ρ hI => ?_)
    · obtain ⟨hp, w1, w2, rfl⟩ := hI
      have inner : forW (hName 2) (pIfS (pTest (pFrz (pCallA 2 g_are_contraryA (pCons (pIxO 0 (pVar 1)) (pCons (pIxO 0 (pVar 2)) pNil))))) (pRet (pVal (pTup (pCons (pVar 1) (pCons (pVar 2) pNil))))) pNext) { P with nx := K, ct := K, bk := P.nx } (rangeD ((i : Int) + 1) (((ws.length : Nat) : Int) - ((i : Int) + 1)).toNat) [some (.val d), some (.val (.int (i : Int))), w2] := by
        refine fr_rgo (ws.length - (i + 1)) (fun t ρ => PairsFree ws i (i + 1 + t) ∧ ∃ w2, ρ = [some (.val d), some (.val (.int (i : Int))), w2]) (by omega) ⟨fun a b u v hab h1 h2 h => hp a b u v hab h1 h2 (by omega), _, rfl⟩ (fun t ρ K2 ht hI hK2 => ?_) (fun ρ hI => ?_)
        · obtain ⟨hp2, w2, rfl⟩ := hI
          have hj : i + 1 + t < ws.length := by omega
          have ej : ((i : Int) + 1 + (t : Int)) = ((i + 1 + t : Nat) : Int) := by omega
          rw [ej]
          refine ix (List.getElem?_eq_getElem hi) (ix (List.getElem?_eq_getElem hj) ⟨rfl, r, ws[i], ws[i + 1 + t], rfl, ifB (fun h => ?_) (fun h => ?_)⟩)
          · exact ⟨by show (2 : Nat) ≤ sizeLine; decide, hR _ _ _ ⟨by omega, ⟨_, _, List.getElem?_eq_getElem hi, List.getElem?_eq_getElem hj, h⟩, hp2⟩⟩
          · refine hK2 _ ⟨fun a b u v hab h1 h2 hh => ?_, _, rfl⟩
            by_cases q : a = i ∧ b = i + 1 + t
            · obtain ⟨rfl, rfl⟩ := q
              rw [List.getElem?_eq_getElem hi] at h1
              rw [List.getElem?_eq_getElem hj] at h2
              cases h1; cases h2; exact h
            · exact hp2 a b u v hab h1 h2 (by omega)
        · obtain ⟨hp2, w2, rfl⟩ := hI
          refine hK _ ⟨fun a b u v hab h1 h2 hh => hp2 a b u v hab h1 h2 ?_, _, _, rfl⟩
          have : b < ws.length := (List.getElem?_eq_some_iff.mp h2).1
          omega
      rcases hd with rfl | rfl
      · refine ⟨⟨by show (-(2 ^ 62) : Int) ≤ (i : Int) + 1; omega, by show (i : Int) + 1 < 2 ^ 62; omega, by show (-(2 ^ 62) : Int) ≤ (((wordsF r ws).length : Nat) : Int); rw [wordsF_len]; omega, by show (((wordsF r ws).length : Nat) : Int) < 2 ^ 62; rw [wordsF_len]; omega⟩, ?_⟩
        show forW _ _ _ (rangeD ((i : Int) + 1) ((((wordsF r ws).length : Nat) : Int) - ((i : Int) + 1)).toNat) _
        rw [wordsF_len]; exact inner
      · refine ⟨⟨by show (-(2 ^ 62) : Int) ≤ (i : Int) + 1; omega, by show (i : Int) + 1 < 2 ^ 62; omega, by show (-(2 ^ 62) : Int) ≤ (((wordsF r ws).length : Nat) : Int); rw [wordsF_len]; omega, by show (((wordsF r ws).length : Nat) : Int) < 2 ^ 62; rw [wordsF_len]; omega⟩, ?_⟩
        show forW _ _ _ (rangeD ((i : Int) + 1) ((((wordsF r ws).length : Nat) : Int) - ((i : Int) + 1)).toNat) _
        rw [wordsF_len]; exact inner
    · obtain ⟨hp, w1, w2, rfl⟩ := hI
      exact hP _ fun a b u v hab h1 h2 => hp a b u v hab h1 h2 (.inl (List.getElem?_eq_some_iff.mp h1).1)
  have b1 : (-(2 ^ 62) : Int) ≤ (((wordsF r ws).length : Nat) : Int) := by rw [wordsF_len]; omega
  have b2 : (((wordsF r ws).length : Nat) : Int) < 2 ^ 62 := by rw [wordsF_len]; omega
  have b3 : ((((wordsF r ws).length : Nat) : Int)).toNat = ws.length := by rw [wordsF_len]; omega
  rcases hd with rfl | rfl
  · refine ⟨b1, b2, ?_⟩
    rw [b3]
    exact key _ (fun ρ h => hN h) fun i j ρ h => hF i j h
  · refine ⟨b1, b2, ?_⟩
    rw [b3]
    exact key _ (fun ρ h => hN h) fun i j ρ h => hF i j h
theorem NoClash.pair {ws : List Wo} (h : NoClash ws) : NoPair ws := fun a b u v _ h1 h2 => h u (List.mem_of_getElem? h1) v (List.mem_of_getElem? h2)
theorem CW.not {ws : List Wo} {i j : Nat} (h : CW ws i j) : ¬ NoPair ws := fun n => by
  obtain ⟨u, v, h1, h2, h3⟩ := h.ex
  rw [n i j u v h.lt h1 h2] at h3; cases h3
theorem CW.one {ws : List Wo} {i j a b : Nat} (h : CW ws i j) (g : CW ws a b) : a = i ∧ b = j := by
  obtain ⟨u, v, h1, h2, h3⟩ := h.ex
  obtain ⟨u', v', g1, g2, g3⟩ := g.ex
  have p := h.free a b u' v' g.lt g1 g2
  have q := g.free i j u v h.lt h1 h2
  by_cases x : a < i ∨ a = i ∧ b < j
  · rw [p x] at g3; cases g3
  · by_cases y : i < a ∨ i = a ∧ j < b
    · rw [q y] at h3; cases h3
    · omega
def g_refuse_clashG : FA := fun ds C => ∃ r d ws, ds = [d] ∧ (WsF r) d ws ∧ NoClash ws ∧ ws.length ≤ 1000 ∧ C (.val .non)
theorem rd_refuse_clashG : ∀ ds C, ds.length = 1 → g_refuse_clashG ds C → T_refuse_clash g_first_clashG (EA C) (startA N_refuse_clash ds) := by
  rintro ds C - ⟨r, d, ws, rfl, hd, hn, hl, hC⟩
  exact ⟨rfl, r, d, ws, rfl, hd, hl, fun i j h => absurd hn.pair h.not, fun _ => hC⟩
def gCp : Nat → FA
  | 0 => fun _ _ => False
  | n + 1 => fun ds C => ∃ d, ds = [d] ∧ okN n d ∧ ∀ c : Cell, c.froz = d → C c
theorem rd_own_copy (n : Nat) : ∀ ds C, ds.length = 1 → gCp (n + 1) ds C → T_own_copy (gCp n) (EA C) (startA N_own_copy ds) := by
  rintro ds C - ⟨d, rfl, hd, hC⟩
  have seq : ∀ (q : D) (xs : List D) (Q : List D → Ro → Prop), okN n (.lst xs) → (∀ ρ, Q xs ρ) → lcW [1] (hName 1) pYes (pFrz (pCallA 1 (gCp n) (pCons (pVar 1) pNil))) Q xs [] [some (.val q), none] := by
    intro q xs Q hx hQ
    cases n with
    | zero => exact hx.elim
    | succ n =>
      refine lc_mp xs id id (by simp) (fun x hx' K hK => ⟨rfl, x, rfl, hx.2 x hx', fun c hc => ?_⟩) hx.1 ?_
      · show K c.froz _
        rw [hc]; exact hK _ rfl
      · rw [List.map_id]; exact hQ _
  cases d with
  | lst xs => exact seq _ xs _ hd fun ρ a => hC (.own a xs) rfl
  | tup xs =>
    refine seq _ xs _ ?_ fun ρ => hC (.val (.tup xs)) rfl
    cases n with
    | zero => exact hd.elim
    | succ n => exact hd
  | scr ns => cases n <;> exact hd.elim
  | adr a => cases n <;> exact hd.elim
  | exc c y => cases n <;> exact hd.elim
  | non => exact hC _ rfl
  | bl b => exact hC _ rfl
  | int i => exact hC _ rfl
  | str z => exact hC _ rfl
abbrev okC : D → Prop := okN 3
def ClX (ds1 : D) (C : XD → Prop) : Prop := ∃ r ws i j, (WsF r) ds1 ws ∧ ws.length ≤ 1000 ∧ CW ws i j ∧ C ⟨"Clash", plD i j⟩
theorem okC_pl (i j : Nat) : okC (plD i j) := ⟨by show (2 : Nat) ≤ 1000; decide, fun x hx => by
  simp only [List.mem_cons, List.not_mem_nil, or_false] at hx
  rcases hx with rfl | rfl <;> trivial⟩
def gx_refuse_clash : FX := fun ds C => ∃ k, ds = [k] ∧ ClX k C
theorem rdx_refuse_clash : ∀ ds C, ds.length = 1 → gx_refuse_clash ds C → TX_refuse_clash g_first_clashG okC E0 (EX C) (startA N_refuse_clash ds) := by
  rintro ds C - ⟨k, rfl, r, ws, i, j, hk, hl, hF, hC⟩
  refine ⟨rfl, r, k, ws, rfl, hk, hl, fun a b h => ?_, fun h => absurd h hF.not⟩
  obtain ⟨rfl, rfl⟩ := hF.one h
  exact ⟨okC_pl _ _, hC⟩
def gx_bounds : FX := fun ds C => ∃ d e k, ds = [d, e, k] ∧ ClX k C
theorem rdx_bounds {a b c : FA} : ∀ ds C, ds.length = 3 → gx_bounds ds C → TX_bounds a b c gx_refuse_clash E0 (EX C) (startA N_bounds ds) := by
  rintro ds C - ⟨d, e, k, rfl, hC⟩
  exact .inr ⟨rfl, k, rfl, hC⟩
def SqL' (d : D) : Prop := ∃ l : List Int, Sq d l ∧ l.length ≤ 900
def gx_ways_on : FX := fun ds C => ∃ d e k, ds = [d, e, k] ∧ SqL' d ∧ ClX k C
theorem rdx_ways_on {a b : FA} : ∀ ds C, ds.length = 3 → gx_ways_on ds C → TX_ways_on a b gx_bounds E0 (EX C) (startA N_ways_on ds) := by
  rintro ds C - ⟨d, e, k, rfl, ⟨l, hd, hl⟩, hC⟩
  have h1 : (1 : Nat) ≤ sizeLine := by decide
  have k0 : (0 : Int) ≤ (((dI l).length : Nat) : Int) + 1 := by omega
  have k1 : (((dI l).length : Nat) : Int) + 1 ≤ 1000 := by rw [ints_len]; omega
  have k2 : ((List.replicate (((((dI l).length : Nat) : Int) + 1).toNat) [D.int 1]).flatten).length + 1 ≤ sizeLine := by
    rw [ints_len, show (((l.length : Nat) : Int) + 1).toNat = l.length + 1 by omega]
    have : ∀ n : Nat, ((List.replicate n [D.int 1]).flatten).length = n := fun n => by
      induction n with
      | zero => rfl
      | succ n ih => rw [List.replicate_succ, List.flatten_cons, List.length_append, ih]; show 1 + n = n + 1; omega
    rw [this]
    exact sl1000 (by omega)
  rcases hd with rfl | rfl
  · exact ⟨h1, k0, k1, by show (1 : Nat) ≤ 1000; decide, h1, k2, h1, fun p => .inr ⟨rfl, _, e, k, rfl, hC⟩⟩
  · exact ⟨h1, k0, k1, by show (1 : Nat) ≤ 1000; decide, h1, k2, h1, fun p => .inr ⟨rfl, _, e, k, rfl, hC⟩⟩
end Pl
namespace Pl
open PySem PySem.Spec PyProof.Rows L2
theorem noclash_hi {m n : Nat} {ws : List Wo} (hb : InB m n ws) (hn : NoClash ws) : ∀ w ∈ ws, hasW (hiL m n ws) w = true := by
  intro w hw
  obtain ⟨k, c, f⟩ := w
  have hbw : c < m ∧ f < n := hb _ hw
  have e : hasW (hiL m n ws) (k, c, f) = (k == decide (c < hiN m ws f)) := by
    show (k == decide (c < (hiL m n ws).getD f 0)) = _
    rw [getD_hiL hbw.2]
  rw [e]
  cases k with
  | true =>
    have : c + 1 ≤ hiN m ws f := hi_ge.mpr ⟨by omega, fun v hv h1 h2 => by
      have hc := hn _ hw v hv
      obtain ⟨k', c', f'⟩ := v
      have h1 : k' = false := h1
      subst h1
      have h2 : f ≤ f' := h2
      have hc : (decide (c' ≤ c) && decide (f ≤ f')) = false := hc
      rw [decide_eq_true h2, Bool.and_true] at hc
      have := of_decide_eq_false hc
      show c + 1 ≤ c'
      omega⟩
    rw [decide_eq_true (show c < hiN m ws f by omega)]; rfl
  | false =>
    have : hiN m ws f ≤ c := (hi_ge.mp (Nat.le_refl (hiN m ws f))).2 (false, c, f) hw rfl (Nat.le_refl f)
    rw [decide_eq_false (show ¬ c < hiN m ws f by omega)]; rfl
theorem noclash_has {cuts fills : List Int} {ws : List Wo} (hb : InB cuts.length fills.length ws) (hn : NoClash ws) : Has cuts fills (ordW 0 (hiL cuts.length fills.length ws) cuts.length) ws := by
  have hr := hiL_rise cuts.length fills.length ws
  have ea := ordW_ahead hr
  exact ⟨by rw [ordW_cT hr]; rfl, by rw [ordW_cF, hiL_len], hb, fun w hw => by rw [ea]; exact noclash_hi hb hn w hw⟩
theorem contr_self (u : Wo) : contr u u = false := by obtain ⟨k, c, f⟩ := u; cases k <;> rfl
theorem contr_symm (u v : Wo) : contr u v = contr v u := by
  obtain ⟨k, c, f⟩ := u
  obtain ⟨k', c', f'⟩ := v
  cases k <;> cases k' <;> rfl
end Pl
namespace Pl
open PySem PySem.Spec PyProof.Rows L2
def rankL (m : Nat) : List (Nat × Nat) → List Nat → Int
  | b :: bs, a :: as => (rowsL m (b :: bs)).getD (a + 1) 0 + rankL m bs as
  | _, _ => 0
theorem fits_weak {m : Nat} : ∀ {bs : List (Nat × Nat)} {as : List Nat} {d e : Nat}, d ≤ e → Fits2 m e bs as → Fits2 m d bs as
  | [], [], d, e, h, g => Nat.le_trans h g
  | b :: bs, a :: as, d, e, h, g => ⟨Nat.le_trans h g.1, g.2⟩
  | [], _ :: _, _, _, _, g => g.elim
  | _ :: _, [], _, _, _, g => g.elim
theorem rank_nonneg {m : Nat} : ∀ (bs : List (Nat × Nat)) (as : List Nat), 0 ≤ rankL m bs as
  | [], _ => Int.le_refl _
  | _ :: _, [] => Int.le_refl _
  | b :: bs, a :: as => by
    have h1 := rowL_nonneg m (b :: bs) (a + 1)
    have h2 := rank_nonneg (m := m) bs as
    show 0 ≤ (rowsL m (b :: bs)).getD (a + 1) 0 + rankL m bs as
    omega
theorem rank_lt {m : Nat} : ∀ {bs : List (Nat × Nat)} {as : List Nat} {d : Nat}, Fits2 m d bs as → rankL m bs as < (rowsL m bs).getD d 0
  | [], [], d, h => by
    show (0 : Int) < (baseL m).getD d 0
    rw [base_get, if_pos (show d ≤ m from h)]; omega
  | b :: bs, a :: as, d, h => by
    have h1 := rowL_later m b bs d a h.1
    have h2 := rowL_get m b bs a
    rw [if_pos ⟨h.2.1, h.2.2.1⟩] at h2
    have h3 := rank_lt h.2.2.2
    show (rowsL m (b :: bs)).getD (a + 1) 0 + rankL m bs as < _
    omega
  | [], _ :: _, _, h => h.elim
  | _ :: _, [], _, h => h.elim
theorem exists_rank {m : Nat} : ∀ (bs : List (Nat × Nat)) (d : Nat) (n : Int), 0 ≤ n → n < (rowsL m bs).getD d 0 → ∃ as, Fits2 m d bs as ∧ rankL m bs as = n
  | [], d, n, h0, h1 => by
    have h1 : n < (baseL m).getD d 0 := h1
    rw [base_get] at h1
    by_cases q : d ≤ m
    · rw [if_pos q] at h1
      exact ⟨[], q, by show (0 : Int) = n; omega⟩
    · rw [if_neg q] at h1; omega
  | b :: bs, d, n, h0, h1 => by
    have key : ∀ k d, m + 2 ≤ d + k → n < (rowsL m (b :: bs)).getD d 0 → ∃ as, Fits2 m d (b :: bs) as ∧ rankL m (b :: bs) as = n := by
      intro k
      induction k with
      | zero =>
        intro d hd h
        rw [rowL_out m (b :: bs) d (by omega)] at h; omega
      | succ k ih =>
        intro d hd h
        by_cases q : n < (rowsL m (b :: bs)).getD (d + 1) 0
        · obtain ⟨as, g1, g2⟩ := ih (d + 1) (by omega) q
          exact ⟨as, fits_weak (by omega) g1, g2⟩
        · have e := rowL_get m b bs d
          by_cases r : b.1 ≤ d ∧ d ≤ b.2
          · rw [if_pos r] at e
            obtain ⟨as, g1, g2⟩ := exists_rank (m := m) bs d (n - (rowsL m (b :: bs)).getD (d + 1) 0) (by omega) (by omega)
            refine ⟨d :: as, ⟨Nat.le_refl _, r.1, r.2, g1⟩, ?_⟩
            show (rowsL m (b :: bs)).getD (d + 1) 0 + rankL m bs as = n
            omega
          · rw [if_neg r] at e; omega
    exact key (m + 2) d (by omega) h1
theorem rank_cut {m : Nat} {b : Nat × Nat} {bs : List (Nat × Nat)} {a : Nat} {as : List Nat} {d : Nat} (h : Fits2 m d (b :: bs) (a :: as)) : rankL m (b :: bs) (a :: as) < (rowsL m (b :: bs)).getD (d + 1) 0 ↔ d < a := by
  constructor
  · intro q
    apply Classical.byContradiction
    intro z
    have e : a = d := by have := h.1; omega
    subst e
    have h2 := rank_nonneg (m := m) bs as
    have q : (rowsL m (b :: bs)).getD (a + 1) 0 + rankL m bs as < (rowsL m (b :: bs)).getD (a + 1) 0 := q
    omega
  · intro q
    exact rank_lt (d := d + 1) ⟨q, h.2⟩
theorem rank_inj {m : Nat} : ∀ {bs : List (Nat × Nat)} {as cs : List Nat} {d : Nat}, Fits2 m d bs as → Fits2 m d bs cs → rankL m bs as = rankL m bs cs → as = cs
  | [], [], [], _, _, _, _ => rfl
  | b :: bs, a :: as, c :: cs, d, h, g, e => by
    have e : (rowsL m (b :: bs)).getD (a + 1) 0 + rankL m bs as = (rowsL m (b :: bs)).getD (c + 1) 0 + rankL m bs cs := e
    have r1 := rank_nonneg (m := m) bs as
    have r2 := rank_nonneg (m := m) bs cs
    have l1 := rank_lt (d := a) (show Fits2 m a (b :: bs) (a :: as) from ⟨Nat.le_refl _, h.2⟩)
    have l2 := rank_lt (d := c) (show Fits2 m c (b :: bs) (c :: cs) from ⟨Nat.le_refl _, g.2⟩)
    have l1 : (rowsL m (b :: bs)).getD (a + 1) 0 + rankL m bs as < (rowsL m (b :: bs)).getD a 0 := l1
    have l2 : (rowsL m (b :: bs)).getD (c + 1) 0 + rankL m bs cs < (rowsL m (b :: bs)).getD c 0 := l2
    have ac : a = c := by
      rcases Nat.lt_trichotomy a c with q | q | q
      · have := rowL_later m b bs (a + 1) c q
        omega
      · exact q
      · have := rowL_later m b bs (c + 1) a q
        omega
    subst ac
    rw [rank_inj h.2.2.2 g.2.2.2 (by omega)]
  | [], _ :: _, _, _, h, _, _ => h.elim
  | [], [], _ :: _, _, _, g, _ => g.elim
  | _ :: _, [], _, _, h, _, _ => h.elim
  | _ :: _, _ :: _, [], _, _, g, _ => g.elim
end Pl
namespace Pl
open PySem PySem.Spec PyProof.Rows L2
def gx_order_at : FX := fun ds C => ∃ d e k n, ds = [d, e, k, n] ∧ SqL' d ∧ ClX k C
theorem rdx_order_at {a : FA} {ok : D → Prop} : ∀ ds C, ds.length = 4 → gx_order_at ds C → TX_order_at a gx_ways_on ok E0 (EX C) (startA N_order_at ds) := by
  rintro ds C - ⟨d, e, k, n, rfl, hd, hC⟩
  exact .inr ⟨rfl, d, e, k, rfl, hd, hC⟩
end Pl
namespace Pl
open PySem PySem.Spec PyProof.Rows L2
theorem fits_rise {m : Nat} : ∀ {bs : List (Nat × Nat)} {as : List Nat} {d : Nat}, Fits2 m d bs as → Rise m d as
  | [], [], d, h => h
  | b :: bs, a :: as, d, h => ⟨h.1, fits_rise h.2.2.2⟩
  | [], _ :: _, _, h => h.elim
  | _ :: _, [], _, h => h.elim
theorem fits_len {m : Nat} : ∀ {bs : List (Nat × Nat)} {as : List Nat} {d : Nat}, Fits2 m d bs as → as.length = bs.length
  | [], [], d, h => rfl
  | b :: bs, a :: as, d, h => by rw [List.length_cons, List.length_cons, fits_len h.2.2.2]
  | [], _ :: _, _, h => h.elim
  | _ :: _, [], _, h => h.elim
theorem fits_get {m : Nat} : ∀ {bs : List (Nat × Nat)} {as : List Nat} {d f x : Nat} {b : Nat × Nat}, Fits2 m d bs as → as[f]? = some x → bs[f]? = some b → b.1 ≤ x ∧ x ≤ b.2
  | c :: bs, a :: as, d, 0, x, b, h, ha, hb => by
    have ha : a = x := by simpa using ha
    have hb : c = b := by simpa using hb
    subst ha hb
    exact ⟨h.2.1, h.2.2.1⟩
  | c :: bs, a :: as, d, f + 1, x, b, h, ha, hb => fits_get h.2.2.2 (by simpa using ha) (by simpa using hb)
  | [], [], d, f, x, b, h, ha, hb => by simp at ha
  | [], _ :: _, _, _, _, _, h, _, _ => h.elim
  | _ :: _, [], _, _, _, _, h, _, _ => h.elim
theorem fits_has {cuts fills : List Int} {ws : List Wo} {as : List Nat} (hb : InB cuts.length fills.length ws) (h : Fits2 cuts.length 0 (bndL cuts.length fills.length ws) as) : Has cuts fills (ordW 0 as cuts.length) ws := by
  have hr := fits_rise h
  have hl := fits_len h
  have hbl : (bndL cuts.length fills.length ws).length = fills.length := by simp [bndL]
  refine ⟨by rw [ordW_cT hr]; rfl, by rw [ordW_cF, hl, hbl], hb, fun w hw => ?_⟩
  rw [ordW_ahead hr]
  have hbw := hb w hw
  obtain ⟨k, c, f⟩ := w
  have hx : as[f]? = some (as.getD f 0) := by rw [List.getD_eq_getElem?_getD, List.getElem?_eq_getElem (by rw [hl, hbl]; exact hbw.2)]; rfl
  have hbf : (bndL cuts.length fills.length ws)[f]? = some (loN ws f, hiN cuts.length ws f) := by
    unfold bndL
    rw [List.getElem?_map, List.getElem?_range' hbw.2]; simp
  have hg := fits_get h hx hbf
  show (k == decide (c < as.getD f 0)) = true
  cases k with
  | true =>
    have := lo_le.mp (Nat.le_refl (loN ws f)) (true, c, f) hw rfl (Nat.le_refl f)
    have : c + 1 ≤ loN ws f := this
    rw [decide_eq_true (by have := hg.1; omega)]; rfl
  | false =>
    have := (hi_ge.mp (Nat.le_refl (hiN cuts.length ws f))).2 (false, c, f) hw rfl (Nat.le_refl f)
    have : hiN cuts.length ws f ≤ c := this
    rw [decide_eq_false (by have := hg.2; omega)]; rfl
theorem stack_at (m : Nat) : ∀ (bs : List (Nat × Nat)) (f : Nat), f ≤ bs.length → (stackL m bs).reverse[f]? = some (rowsL m (bs.drop f))
  | [], 0, _ => rfl
  | [], f + 1, h => by simp at h
  | b :: bs, 0, _ => by
    show (stackL m bs ++ [rowsL m (b :: bs)]).reverse[0]? = _
    rw [List.reverse_append]; rfl
  | b :: bs, f + 1, h => by
    show (stackL m bs ++ [rowsL m (b :: bs)]).reverse[f + 1]? = _
    rw [List.reverse_append]
    show ((stackL m bs).reverse)[f]? = _
    rw [stack_at m bs f (by simpa using h)]; rfl
theorem join_sg (p : List Bool) : Txt.join ("" : Str) (p.map sgS) = txt p := by
  have := join_txt (p.map fun b => [b])
  rw [List.map_map] at this
  have e1 : (txt ∘ fun b => [b]) = sgS := by funext b; cases b <;> rfl
  rw [e1] at this
  rw [this]
  congr 1
  induction p with
  | nil => rfl
  | cons b p ih => rw [List.map_cons, List.flatten_cons, ih (by have := join_txt (p.map fun b => [b]); rw [List.map_map, e1] at this; exact this)]; rfl
def waysB (m : Nat) (B : List (Nat × Nat)) : D := .lst ((stackL m B).reverse.map lD)
theorem ways_at {m : Nat} {B : List (Nat × Nat)} {f : Nat} (hf : f ≤ B.length) : atI ((stackL m B).reverse.map lD) ((f : Nat) : Int) = some (lD (rowsL m (B.drop f))) := by
  refine atI_nat ?_
  rw [List.getElem?_map, stack_at m B f hf]; rfl
theorem row_at {m : Nat} {B : List (Nat × Nat)} {c : Nat} (hc : c < m + 2) : atI (dI (rowsL m B)) ((c : Nat) : Int) = some (.int ((rowsL m B).getD c 0)) := atI_ints' (by rw [rowsL_len]; exact hc)
theorem order_loop {d e k : D} {cuts fills : List Int} (hd : Sq d cuts) (he : Sq e fills) {B : List (Nat × Nat)} (hBl : B.length = fills.length) (hcl : cuts.length ≤ 400) (hfl : fills.length ≤ 400) {as : List Nat} {n : Int} (hA : Fits2 cuts.length 0 B as) (hr : rankL cuts.length B as = n) {P : PEnds} {b : Addr}
    (hP : ∀ w6 w7 w8 w9, P.nx [some (.val d), some (.val e), some (.val k), some (.val (.int n)), some (.val (waysB cuts.length B)), some (.own b ((ordW 0 as cuts.length).map sgD)), w6, w7, w8, w9]) :
    pWhile (pOr (pTest (pOp fLt (pVar 6) (pLenO 0))) (pTest (pOp fLt (pVar 7) (pLenO 1)))) (pSeq (pSet 9 (pVal (pOp fIx (pIxO 4 (pVar 7)) (pOp fAdd (pVar 6) (pC (.int 1)))))) (pIfS (pTest (pOp fLt (pVar 8) (pVar 9))) (pSeq (pAppend 5 (pC (.str "c"))) (pAugI 6 (fun i j => i + j) (pC (.int 1)))) (pSeq (pAppend 5 (pC (.str "f"))) (pSeq (pAugI 7 (fun i j => i + j) (pC (.int 1))) (pAugI 8 (fun i j => i - j) (pVar 9)))))) P
      [some (.val d), some (.val e), some (.val k), some (.val (.int n)), some (.val (waysB cuts.length B)), some (.own b []), some (.val (.int 0)), some (.val (.int 0)), some (.val (.int n)), none] := by
  have lens : ∀ (z : D) (l : List Int), Sq z l → ∀ (c : Int) (Q : Bool → Prop), Q (decide (c < (l.length : Int))) → (match z with | .lst xs => Q (decide (c < (xs.length : Int))) | .tup xs => Q (decide (c < (xs.length : Int))) | _ => False) := fun z l hz c Q h => by
    rcases hz with rfl | rfl
    · show Q (decide (c < ((dI l).length : Int))); rw [ints_len]; exact h
    · show Q (decide (c < ((dI l).length : Int))); rw [ints_len]; exact h
  refine ⟨fun t ρ => ∃ (p : List Bool) (cut fill : Nat) (as' : List Nat) (left : Int) (w9 : Option Cell), Fits2 cuts.length cut (B.drop fill) as' ∧ rankL cuts.length (B.drop fill) as' = left ∧ fill ≤ fills.length ∧ p ++ ordW cut as' cuts.length = ordW 0 as cuts.length ∧ t = (cuts.length - cut) + (fills.length - fill) ∧ p.length = cut + fill ∧ ρ = [some (.val d), some (.val e), some (.val k), some (.val (.int n)), some (.val (waysB cuts.length B)), some (.own b (p.map sgD)), some (.val (.int (cut : Int))), some (.val (.int (fill : Int))), some (.val (.int left)), w9], ⟨_, [], 0, 0, as, n, none, hA, hr, Nat.zero_le _, rfl, rfl, rfl, rfl⟩, fun t ρ hW => ?_⟩
  obtain ⟨p, cut, fill, as', left, w9, hF, hR, hfq, ho, rfl, hpl, rfl⟩ := hW
  have hcm := fits_top hF
  have hfl2 := fits_len hF
  rw [List.length_drop, hBl] at hfl2
  have go : cut < cuts.length ∨ fill < fills.length → ∀ (Q1 : Ro → Prop) (PP : PEnds), PP.nx = (fun ρ' => ∃ m', m' < (cuts.length - cut) + (fills.length - fill) ∧ ∃ (p : List Bool) (cut fill : Nat) (as' : List Nat) (left : Int) (w9 : Option Cell), Fits2 cuts.length cut (B.drop fill) as' ∧ rankL cuts.length (B.drop fill) as' = left ∧ fill ≤ fills.length ∧ p ++ ordW cut as' cuts.length = ordW 0 as cuts.length ∧ m' = (cuts.length - cut) + (fills.length - fill) ∧ p.length = cut + fill ∧ ρ' = [some (.val d), some (.val e), some (.val k), some (.val (.int n)), some (.val (waysB cuts.length B)), some (.own b (p.map sgD)), some (.val (.int (cut : Int))), some (.val (.int (fill : Int))), some (.val (.int left)), w9]) →
      pSeq (pSet 9 (pVal (pOp fIx (pIxO 4 (pVar 7)) (pOp fAdd (pVar 6) (pC (.int 1)))))) (pIfS (pTest (pOp fLt (pVar 8) (pVar 9))) (pSeq (pAppend 5 (pC (.str "c"))) (pAugI 6 (fun i j => i + j) (pC (.int 1)))) (pSeq (pAppend 5 (pC (.str "f"))) (pSeq (pAugI 7 (fun i j => i + j) (pC (.int 1))) (pAugI 8 (fun i j => i - j) (pVar 9))))) PP [some (.val d), some (.val e), some (.val k), some (.val (.int n)), some (.val (waysB cuts.length B)), some (.own b (p.map sgD)), some (.val (.int (cut : Int))), some (.val (.int (fill : Int))), some (.val (.int left)), w9] := by
    intro hlt _ PP hPP
    have sml : (p.map sgD).length < sizeLine := by rw [List.length_map]; exact small1000 (by omega)
    refine ⟨_, ways_at (by omega), _, (by show atI (dI (rowsL cuts.length (B.drop fill))) ((cut : Int) + 1) = _; rw [show ((cut : Int) + 1) = ((cut + 1 : Nat) : Int) by omega]; exact row_at (by omega)), ?_⟩
    have ec : D.str ("c" : Str) = sgD true := congrArg D.str (by decide +kernel)
    have ef : D.str ("f" : Str) = sgD false := congrArg D.str (by decide +kernel)
    have m1 : p.map sgD ++ [D.str ("c" : Str)] = (p ++ [true]).map sgD := by rw [ec, List.map_append]; rfl
    have m2 : p.map sgD ++ [D.str ("f" : Str)] = (p ++ [false]).map sgD := by rw [ef, List.map_append]; rfl
    have i1 : ((cut : Int) + 1) = ((cut + 1 : Nat) : Int) := by omega
    have i2 : ((fill : Int) + 1) = ((fill + 1 : Nat) : Int) := by omega
    have cs : ∀ (by9 : Int), Fits2 cuts.length (cut + 1) (B.drop fill) as' → ordW cut as' cuts.length = true :: ordW (cut + 1) as' cuts.length → cut < cuts.length → (pSeq (pAppend 5 (pC (.str "c"))) (pAugI 6 (fun i j => i + j) (pC (.int 1)))) PP [some (.val d), some (.val e), some (.val k), some (.val (.int n)), some (.val (waysB cuts.length B)), some (.own b (p.map sgD)), some (.val (.int (cut : Int))), some (.val (.int (fill : Int))), some (.val (.int left)), some (.val (.int by9))] := by
      intro by9 hF2 hord hcu
      refine ⟨_, rfl, sml, _, rfl, ?_⟩
      show PP.nx [some (.val d), some (.val e), some (.val k), some (.val (.int n)), some (.val (waysB cuts.length B)), some (.own b (p.map sgD ++ [D.str ("c" : Str)])), some (.val (.int ((cut : Int) + 1))), some (.val (.int (fill : Int))), some (.val (.int left)), some (.val (.int by9))]
      rw [hPP, m1, i1]
      exact ⟨_, by omega, p ++ [true], cut + 1, fill, as', left, _, hF2, hR, hfq, by rw [List.append_assoc, ← ho, hord]; rfl, rfl, by rw [List.length_append, hpl]; show cut + fill + 1 = _; omega, rfl⟩
    cases hc : B.drop fill with
    | nil =>
      rw [hc] at hF hR cs
      have hlen : B.length ≤ fill := by
        have := congrArg List.length hc
        rw [List.length_drop] at this
        have : B.length - fill = 0 := this
        omega
      have hcu : cut < cuts.length := by omega
      match as', hF, hR, cs with
      | [], hF, hR, cs =>
        have hR : (0 : Int) = left := hR
        refine ifT (decide_eq_true ?_) (cs _ (show cut + 1 ≤ cuts.length from hcu) ?_ hcu)
        · show left < (baseL cuts.length).getD (cut + 1) 0
          rw [base_get, if_pos (show cut + 1 ≤ cuts.length from hcu)]; omega
        · rw [ordW, ordW, show cuts.length - cut = (cuts.length - (cut + 1)) + 1 by omega, List.replicate_succ]
      | _ :: _, hF, _, _ => exact hF.elim
    | cons c bs =>
      have hd1 : B.drop (fill + 1) = bs := by
        have := congrArg (List.drop 1) hc
        rw [List.drop_drop] at this
        simpa using this
      rw [hc] at hF hR cs
      match as', hF, hR, cs, ho with
      | [], hF, _, _, _ => exact hF.elim
      | a :: as2, hF, hR, cs, ho =>
        have rc := rank_cut hF
        rw [hR] at rc
        have htop := fits_top hF.2.2.2
        by_cases h : cut < a
        · refine ifT (decide_eq_true (rc.mpr h)) (cs _ ⟨h, hF.2⟩ ?_ (by omega))
          rw [ordW, ordW, show a - cut = (a - (cut + 1)) + 1 by omega, List.replicate_succ]; rfl
        · have ea : a = cut := by have := hF.1; omega
          subst ea
          refine ifF (decide_eq_false fun z => h (rc.mp z)) ?_
          refine ⟨_, rfl, sml, _, rfl, _, rfl, ?_⟩
          show PP.nx [some (.val d), some (.val e), some (.val k), some (.val (.int n)), some (.val (waysB cuts.length B)), some (.own b (p.map sgD ++ [D.str ("f" : Str)])), some (.val (.int (a : Int))), some (.val (.int ((fill : Int) + 1))), some (.val (.int (left - (rowsL cuts.length (c :: bs)).getD (a + 1) 0))), some (.val (.int ((rowsL cuts.length (c :: bs)).getD (a + 1) 0)))]
          have hfill : fill < fills.length := by
            have := congrArg List.length hc
            rw [List.length_drop, hBl, List.length_cons] at this
            omega
          rw [hPP, m2, i2]
          have hR2 : (rowsL cuts.length (c :: bs)).getD (a + 1) 0 + rankL cuts.length bs as2 = left := hR
          refine ⟨_, by omega, p ++ [false], a, fill + 1, as2, _, _, by rw [hd1]; exact hF.2.2.2, by rw [hd1]; omega, by omega, ?_, rfl, by rw [List.length_append, hpl]; show a + fill + 1 = _; omega, rfl⟩
          rw [List.append_assoc, ← ho, ordW, Nat.sub_self]; rfl
  have fin : ¬ cut < cuts.length → ¬ fill < fills.length → p = ordW 0 as cuts.length := fun h1 h2 => by
    have e0 : as' = [] := List.length_eq_zero_iff.mp (by omega)
    subst e0
    rw [← ho, ordW, show cuts.length - cut = 0 by omega]; simp
  rcases hd with rfl | rfl <;> rcases he with rfl | rfl
  all_goals
    by_cases h1 : cut < cuts.length
    · refine ifT (show decide ((cut : Int) < (((dI cuts).length : Nat) : Int)) = true by rw [ints_len]; exact decide_eq_true (by omega)) (ifT rfl ?_)
      exact go (.inl h1) (fun _ => True) _ rfl
    · refine ifF (show decide ((cut : Int) < (((dI cuts).length : Nat) : Int)) = false by rw [ints_len]; exact decide_eq_false (by omega)) ?_
      by_cases h2 : fill < fills.length
      · refine ifT (show decide ((fill : Int) < (((dI fills).length : Nat) : Int)) = true by rw [ints_len]; exact decide_eq_true (by omega)) ?_
        exact go (.inr h2) (fun _ => True) _ rfl
      · refine ifF (show decide ((fill : Int) < (((dI fills).length : Nat) : Int)) = false by rw [ints_len]; exact decide_eq_false (by omega)) ?_
        rw [fin h1 h2]
        exact hP _ _ _ _
def g_order_atG (gw : FA) : FA := fun ds C => ∃ d e k cuts fills ws n, ds = [d, e, k, .int n] ∧ Sq d cuts ∧ Sq e fills ∧ cuts.length ≤ 400 ∧ fills.length ≤ 400 ∧ InB cuts.length fills.length ws ∧ (∀ C' : Cell → Prop, C' (.val (waysB cuts.length (bndL cuts.length fills.length ws))) → gw [d, e, k] C') ∧ 0 ≤ n ∧ n < manyL cuts.length (bndL cuts.length fills.length ws) ∧ ∀ as, Fits2 cuts.length 0 (bndL cuts.length fills.length ws) as → rankL cuts.length (bndL cuts.length fills.length ws) as = n → C (.val (.str (txt (ordW 0 as cuts.length))))
theorem rd_order_atG {gw : FA} : ∀ ds C, ds.length = 4 → g_order_atG gw ds C → T_order_at gw (EA C) (startA N_order_at ds) := by
  rintro ds C - ⟨d, e, k, cuts, fills, ws, n, rfl, hd, he, hcl, hfl, hb, hgw, n0, n1, hC⟩
  have hbl : (bndL cuts.length fills.length ws).length = fills.length := by simp [bndL]
  have n1' : n < (rowsL cuts.length (bndL cuts.length fills.length ws)).getD 0 0 := by
    have := n1
    unfold manyL at this
    rw [headD_getD] at this; exact this
  obtain ⟨as, hA, hr⟩ := exists_rank (bndL cuts.length fills.length ws) 0 n n0 n1'
  have hC := hC as hA hr
  have H := fits_has hb hA
  generalize bndL cuts.length fills.length ws = B at hgw n1' hA hr hbl
  have w0 : atI ((stackL cuts.length B).reverse.map lD) (0 : Int) = some (lD (rowsL cuts.length B)) := ways_at (f := 0) (Nat.zero_le _)
  have r0 : atI (dI (rowsL cuts.length B)) (0 : Int) = some (.int ((rowsL cuts.length B).getD 0 0)) := row_at (c := 0) (by omega)
  refine ⟨rfl, hgw _ ?_⟩
  refine ifT (decide_eq_true n0) ⟨_, w0, _, r0, ?_⟩
  refine ifF (by show (!decide (n < (rowsL cuts.length B).getD 0 0)) = false; rw [decide_eq_true n1']; rfl) ?_
  refine ⟨Nat.zero_le _, fun b => ?_⟩
  refine order_loop hd he hbl hcl hfl hA hr fun w6 w7 w8 w9 => ?_
  have hlen : (ordW 0 as cuts.length).length ≤ 800 := by
    have := cT_cF (ordW 0 as cuts.length)
    have h1 := H.t
    have h2 := H.f
    omega
  refine ⟨(ordW 0 as cuts.length).map sgS, by rw [List.map_map]; rfl, ?_, ?_⟩
  · have : ((ordW 0 as cuts.length).map sgS).map (·.length) = List.replicate (ordW 0 as cuts.length).length 1 := by
      rw [List.map_map, List.eq_replicate_iff]
      refine ⟨by simp, fun x hx => ?_⟩
      obtain ⟨c, _, rfl⟩ := List.mem_map.mp hx
      rfl
    rw [this]
    have h2 : (List.replicate (ordW 0 as cuts.length).length 1).sum = (ordW 0 as cuts.length).length := by simp
    rw [h2]
    show _ + _ * 0 ≤ _
    omega
  · show C (.val (.str (Txt.join ("" : Str) ((ordW 0 as cuts.length).map sgS))))
    rw [join_sg]; exact hC
end Pl
namespace Pl
open PySem PySem.Spec PyProof.Rows L2
def tellD (a b s : List Int) (m : Int) (bs : List (Nat × Nat)) : D := .tup [.tup [tD a, tD b], .lst (dI s), .int m, .lst (bs.map bndD)]
def toldD (l cuts fills : List Int) (ws : List Wo) : D := tellD (loSt l cuts fills ws) (hiSt l cuts fills ws) (sureL 0 (loSt l cuts fills ws) (hiSt l cuts fills ws)) (manyL cuts.length (bndL cuts.length fills.length ws)) (bndL cuts.length fills.length ws)
def g__law_told : FA := fun ds C => ∃ a l d cuts e fills k ws, ds = [a, d, e, k] ∧ Sq a l ∧ l ≠ [] ∧ l.length ≤ 1000 ∧ Bk d cuts e fills k ws ∧ C (.val (toldD l cuts fills ws))
end Pl
namespace Pl
open PySem PySem.Spec PyProof.Rows L2
def g_ways_onA : FA := fun ds C => ∃ r d cuts e fills k ws, ds = [d, e, k] ∧ Sq d cuts ∧ Sq e fills ∧ WsF r k ws ∧ NoClash ws ∧ ws.length ≤ 1000 ∧ cuts.length ≤ 900 ∧ fills.length ≤ 900 ∧ InB cuts.length fills.length ws ∧ C (.val (.lst ((stackL cuts.length (bndL cuts.length fills.length ws)).reverse.map lD)))
theorem rd_ways_onA : ∀ ds C, ds.length = 3 → g_ways_onA ds C → T_ways_on g_boundsA g_ways_ahead { nx := fun _ => C (.val .non), rt := fun c _ => C c } (startA N_ways_on ds) := by
  rintro ds C - ⟨r, d, cuts, e, fills, k, ws, rfl, hd, he, hk, hn, hl, hcl, hfl, hb, hC⟩
  have hbl : (bndL cuts.length fills.length ws).length = fills.length := by simp [bndL]
  have loop : ∀ (b : Addr), forW (hTup 2 (hCons (hName 4) (hCons (hName 5) hNil))) (pAppend 3 (pFrz (pCallA 3 g_ways_ahead (pCons (pIxO 3 (pUn fNeg (pC (.int 1)))) (pCons (pVar 4) (pCons (pVar 5) pNil)))))) { nx := fun ρ => pRet (pVal (pUn fRev (pVar 3))) { nx := fun _ => C (.val .non), rt := fun c _ => C c } ρ, rt := fun c _ => C c } (((bndL cuts.length fills.length ws).map bndD).reverse) [some (.val d), some (.val e), some (.val k), some (.own b [lD (baseL cuts.length)]), none, none] := by
    intro b
    refine for_inv (fun ds ρ => ∃ (pre bs : List (Nat × Nat)) (w4 w5 : Option Cell), ds = (pre.map bndD).reverse ∧ bndL cuts.length fills.length ws = pre ++ bs ∧ ρ = [some (.val d), some (.val e), some (.val k), some (.own b ((stackL cuts.length bs).map lD)), w4, w5]) (fun x rr ρ K hK hI => ?_) (fun ρ hI => ?_) _ _ ⟨bndL cuts.length fills.length ws, [], none, none, rfl, by simp, rfl⟩
    · obtain ⟨pre, bs, w4, w5, e1, e2, rfl⟩ := hI
      rcases List.eq_nil_or_concat pre with rfl | ⟨pre', q, rfl⟩
      · cases e1
      · rw [List.concat_eq_append, List.map_append, List.reverse_append] at e1
        rw [List.concat_eq_append] at e2
        cases e1
        obtain ⟨r0, hr0⟩ := stack_last cuts.length bs
        have hlen : pre'.length + 1 + bs.length = fills.length := by rw [← hbl, e2]; simp; omega
        have hlast : atI ((stackL cuts.length bs).map lD) (-1) = some (lD (rowsL cuts.length bs)) := by
          rw [hr0, List.map_append]; exact atI_last _ _
        refine ⟨rfl, rfl, _, _, _, rfl, rfl, hlast, rfl, rowsL cuts.length bs, q.1, q.2, rfl, by rw [rowsL_len]; omega, _, rfl, small1000 (by rw [List.length_map, stack_len]; omega), ?_⟩
        refine hK _ ⟨pre', q :: bs, some (.val (.int (q.1 : Int))), some (.val (.int (q.2 : Int))), rfl, by rw [e2]; simp, ?_⟩
        show _ = [some (Cell.val d), some (.val e), some (.val k), some (.own b ((stackL cuts.length bs ++ [rowsL cuts.length (q :: bs)]).map lD)), some (.val (.int (q.1 : Int))), some (.val (.int (q.2 : Int)))]
        rw [List.map_append]; rfl
    · obtain ⟨pre, bs, w4, w5, e1, e2, rfl⟩ := hI
      have : pre = [] := by
        cases pre with
        | nil => rfl
        | cons q pre => simp at e1
      subst this
      rw [List.nil_append] at e2
      show C (.val (.lst ((stackL cuts.length bs).map lD).reverse))
      rw [← List.map_reverse, ← e2]
      exact hC
  have e0 : (List.replicate (((((dI cuts).length : Nat) : Int) + 1).toNat) [D.int 1]).flatten ++ [.int 0] = dI (baseL cuts.length) := by
    rw [ints_len, show (((cuts.length : Nat) : Int) + 1).toNat = cuts.length + 1 by omega]
    unfold baseL dI
    rw [List.map_append, List.map_replicate]
    congr 1
    generalize cuts.length + 1 = n
    induction n with
    | zero => rfl
    | succ n ih => rw [List.replicate_succ, List.flatten_cons, ih]; rfl
  have h1 : (1 : Nat) ≤ sizeLine := by decide
  have rest : ∀ (x : List D), x = dI (baseL cuts.length) → ∀ b, pFor (jSeq (pUn fRev (pFrz (pCallA 3 g_boundsA (pCons (pVar 0) (pCons (pVar 1) (pCons (pVar 2) pNil))))))) (hTup 2 (hCons (hName 4) (hCons (hName 5) hNil))) (pAppend 3 (pFrz (pCallA 3 g_ways_ahead (pCons (pIxO 3 (pUn fNeg (pC (.int 1)))) (pCons (pVar 4) (pCons (pVar 5) pNil)))))) { nx := fun ρ => pRet (pVal (pUn fRev (pVar 3))) { nx := fun _ => C (.val .non), rt := fun c _ => C c } ρ, rt := fun c _ => C c } [some (.val d), some (.val e), some (.val k), some (.own b [.lst x]), none, none] := by
    intro x hx b
    subst hx
    exact ⟨rfl, r, d, cuts, e, fills, k, ws, rfl, hd, he, hk, hn, hl, hfl, hb, fun p => loop b⟩
  have k0 : (0 : Int) ≤ (((dI cuts).length : Nat) : Int) + 1 := by omega
  have k1 : (((dI cuts).length : Nat) : Int) + 1 ≤ 1000 := by rw [ints_len]; omega
  have k2 : ((List.replicate (((((dI cuts).length : Nat) : Int) + 1).toNat) [D.int 1]).flatten).length + 1 ≤ sizeLine := by
    have := congrArg List.length e0
    rw [List.length_append] at this
    have e : (dI (baseL cuts.length)).length = cuts.length + 2 := by rw [ints_len]; simp [baseL]
    rw [e] at this
    have this : _ + 1 = cuts.length + 2 := this
    exact sl1000 (by omega)
  rcases hd with rfl | rfl
  · exact ⟨h1, k0, k1, by show (1 : Nat) ≤ 1000; decide, h1, k2, h1, fun b => rest _ e0 b⟩
  · exact ⟨h1, k0, k1, by show (1 : Nat) ≤ 1000; decide, h1, k2, h1, fun b => rest _ e0 b⟩
theorem ways_tell {r : Bool} {d e k : D} {cuts fills : List Int} {ws : List Wo} (hd : Sq d cuts) (he : Sq e fills) (hk : WsF r k ws) (hn : NoClash ws) (hl : ws.length ≤ 1000) (hcl : cuts.length ≤ 400) (hfl : fills.length ≤ 400) (hb : InB cuts.length fills.length ws) : ∀ C' : Cell → Prop, C' (.val (waysB cuts.length (bndL cuts.length fills.length ws))) → g_ways_onA [d, e, k] C' :=
  fun C' h => ⟨r, d, cuts, e, fills, k, ws, rfl, hd, he, hk, hn, hl, by omega, by omega, hb, h⟩
end Pl
namespace Pl
open PySem PySem.Spec PyProof.Rows L2
theorem fits_up {m d : Nat} {B : List (Nat × Nat)} {r : List Bool} (hB : B ≠ []) (h : Fits2 m d B (aheadL (d + 1) r)) : Fits2 m (d + 1) B (aheadL (d + 1) r) := by
  cases B with
  | nil => exact absurd rfl hB
  | cons b bs =>
    cases e : aheadL (d + 1) r with
    | nil => rw [e] at h; exact h.elim
    | cons a as =>
      rw [e] at h
      have := (aheadL_le r (d + 1) a (by rw [e]; simp)).1
      exact ⟨this, h.2⟩
theorem pair_rank : ∀ (n c f : Nat), c + f ≤ n → ∀ (m d : Nat) (B : List (Nat × Nat)), B.length = f → (allO c f).Pairwise fun o o' => Fits2 m d B (aheadL d o) → Fits2 m d B (aheadL d o') → rankL m B (aheadL d o) < rankL m B (aheadL d o')
  | _, 0, f, _, m, d, B, _ => by rw [allO]; exact List.pairwise_singleton _ _
  | _, c + 1, 0, _, m, d, B, _ => by rw [allO]; exact List.pairwise_singleton _ _
  | 0, c + 1, f + 1, h, _, _, _, _ => by omega
  | n + 1, c + 1, f + 1, h, m, d, B, hB => by
    have hne : B ≠ [] := fun q => by rw [q] at hB; cases hB
    obtain ⟨b, bs, rfl⟩ : ∃ b bs, B = b :: bs := by cases B with | nil => exact absurd rfl hne | cons b bs => exact ⟨b, bs, rfl⟩
    rw [allO, List.pairwise_append]
    refine ⟨?_, ?_, ?_⟩
    · rw [List.pairwise_map]
      refine (pair_rank n c (f + 1) (by omega) m (d + 1) (b :: bs) hB).imp fun {x y} q h1 h2 => ?_
      exact q (fits_up hne h1) (fits_up hne h2)
    · rw [List.pairwise_map]
      refine (pair_rank n (c + 1) f (by omega) m d bs (by simpa using hB)).imp fun {x y} q h1 h2 => ?_
      have := q h1.2.2.2 h2.2.2.2
      show (rowsL m (b :: bs)).getD (d + 1) 0 + rankL m bs (aheadL d x) < (rowsL m (b :: bs)).getD (d + 1) 0 + rankL m bs (aheadL d y)
      omega
    · intro x hx y hy h1 h2
      obtain ⟨r, _, rfl⟩ := List.mem_map.mp hx
      obtain ⟨r', _, rfl⟩ := List.mem_map.mp hy
      have g1 : rankL m (b :: bs) (aheadL (d + 1) r) < (rowsL m (b :: bs)).getD (d + 1) 0 := rank_lt (fits_up hne h1)
      have g2 := rank_nonneg (m := m) bs (aheadL d r')
      show rankL m (b :: bs) (aheadL (d + 1) r) < (rowsL m (b :: bs)).getD (d + 1) 0 + rankL m bs (aheadL d r')
      omega
theorem sorted_ext : ∀ {a b : List Int}, a.Pairwise (· < ·) → b.Pairwise (· < ·) → (∀ x, x ∈ a ↔ x ∈ b) → a = b
  | [], [], _, _, _ => rfl
  | [], y :: b, _, _, h => by have := (h y).mpr (by simp); simp at this
  | x :: a, [], _, _, h => by have := (h x).mp (by simp); simp at this
  | x :: a, y :: b, ha, hb, h => by
    rw [List.pairwise_cons] at ha hb
    have e : x = y := by
      rcases List.mem_cons.mp ((h x).mp (by simp)) with q | q
      · exact q
      · have h1 := hb.1 x q
        rcases List.mem_cons.mp ((h y).mpr (by simp)) with r | r
        · exact r.symm
        · have h2 := ha.1 y r
          omega
    subst e
    rw [sorted_ext ha.2 hb.2 fun z => ?_]
    constructor
    · intro hz
      have h1 := ha.1 z hz
      rcases List.mem_cons.mp ((h z).mp (by simp [hz])) with q | q
      · omega
      · exact q
    · intro hz
      have h1 := hb.1 z hz
      rcases List.mem_cons.mp ((h z).mpr (by simp [hz])) with q | q
      · omega
      · exact q
theorem fits_of_has {cuts fills : List Int} {o : List Bool} {ws : List Wo} (H : Has cuts fills o ws) : Fits2 cuts.length 0 (bndL cuts.length fills.length ws) (aheadL 0 o) := by
  have hR := H.rise
  have hL := H.len
  have hb : ∀ (k : Nat) (as : List Nat) (d : Nat), Rise cuts.length d as → (∀ f x, as[f]? = some x → loN ws (k + f) ≤ x ∧ x ≤ hiN cuts.length ws (k + f)) → Fits2 cuts.length d ((List.range' k as.length).map fun f => (loN ws f, hiN cuts.length ws f)) as := by
    intro k as
    induction as generalizing k with
    | nil => intro d h _; exact h
    | cons a as ih =>
      intro d h hx
      have h0 := hx 0 a rfl
      exact ⟨h.1, h0.1, h0.2, ih (k + 1) a h.2 fun f x hf => by have := hx (f + 1) x hf; rw [show k + 1 + f = k + (f + 1) by omega]; exact this⟩
  have hF := hb 0 (aheadL 0 o) 0 hR fun f x hf => by rw [Nat.zero_add]; exact H.btw hf
  rw [hL] at hF
  exact hF
abbrev hasAll (ws : List Wo) (o : List Bool) : Bool := ws.all fun w => hasW (aheadL 0 o) w
theorem mem_fits {cuts fills : List Int} {ws : List Wo} (hb : InB cuts.length fills.length ws) {o : List Bool} : o ∈ (allO cuts.length fills.length).filter (hasAll ws) ↔ Has cuts fills o ws := by
  rw [List.mem_filter, mem_allO _ _ _ (Nat.le_refl _), hasAll, List.all_eq_true]
  exact ⟨fun h => ⟨h.1.1, h.1.2, hb, h.2⟩, fun h => ⟨⟨h.t, h.f⟩, h.h⟩⟩
theorem has_of_fits {cuts fills : List Int} {ws : List Wo} {as : List Nat} (hb : InB cuts.length fills.length ws) (h : Fits2 cuts.length 0 (bndL cuts.length fills.length ws) as) (hh : Has cuts fills (ordW 0 as cuts.length) ws) (hr : Rise cuts.length 0 as) : ordW 0 as cuts.length ∈ (allO cuts.length fills.length).filter (hasAll ws) ∧ aheadL 0 (ordW 0 as cuts.length) = as := ⟨(mem_fits hb).mpr hh, ordW_ahead hr⟩
end Pl
namespace Pl
open PySem PySem.Spec PyProof.Rows L2
section
variable {cuts fills : List Int} {ws : List Wo}
abbrev fitsL (m n : Nat) (ws : List Wo) : List (List Bool) := (allO m n).filter (hasAll ws)
abbrev rkO (m n : Nat) (ws : List Wo) (o : List Bool) : Int := rankL m (bndL m n ws) (aheadL 0 o)
theorem fits_sorted (hb : InB cuts.length fills.length ws) : ((fitsL cuts.length fills.length ws).map (rkO cuts.length fills.length ws)).Pairwise (· < ·) := by
  rw [List.pairwise_map]
  have h := (pair_rank _ cuts.length fills.length (Nat.le_refl _) cuts.length 0 (bndL cuts.length fills.length ws) (bnd_len _ _ _)).filter (hasAll ws)
  exact h.imp_of_mem fun {x y} hx hy q => q (fits_of_has ((mem_fits hb).mp hx)) (fits_of_has ((mem_fits hb).mp hy))
theorem many_rows (m n : Nat) (ws : List Wo) : manyL m (bndL m n ws) = (rowsL m (bndL m n ws)).getD 0 0 := by unfold manyL; rw [headD_getD]
theorem many_nonneg (m n : Nat) (ws : List Wo) : 0 ≤ manyL m (bndL m n ws) := by rw [many_rows]; exact rowL_nonneg _ _ _
theorem range_sorted (n : Nat) : ((List.range n).map fun (k : Nat) => (k : Int)).Pairwise (· < ·) := by
  rw [List.pairwise_map]
  exact List.pairwise_lt_range.imp fun h => Int.ofNat_lt.mpr h
theorem fits_ranks (hb : InB cuts.length fills.length ws) : (fitsL cuts.length fills.length ws).map (rkO cuts.length fills.length ws) = (List.range (manyL cuts.length (bndL cuts.length fills.length ws)).toNat).map fun (k : Nat) => (k : Int) := by
  have hN := many_nonneg cuts.length fills.length ws
  refine sorted_ext (fits_sorted hb) (range_sorted _) fun x => ?_
  rw [List.mem_map, List.mem_map]
  constructor
  · rintro ⟨o, ho, rfl⟩
    have H := (mem_fits hb).mp ho
    have h1 := rank_nonneg (m := cuts.length) (bndL cuts.length fills.length ws) (aheadL 0 o)
    have h2 := rank_lt (fits_of_has H)
    rw [← many_rows] at h2
    exact ⟨(rankL cuts.length (bndL cuts.length fills.length ws) (aheadL 0 o)).toNat, List.mem_range.mpr (by omega), by show ((_ : Nat) : Int) = rankL _ _ _; omega⟩
  · rintro ⟨k, hk, rfl⟩
    have hk := List.mem_range.mp hk
    obtain ⟨as, hA, hr⟩ := exists_rank (bndL cuts.length fills.length ws) 0 (k : Int) (by omega) (by rw [← many_rows]; omega)
    have := has_of_fits hb hA (fits_has hb hA) (fits_rise hA)
    exact ⟨_, this.1, by show rankL _ _ (aheadL 0 (ordW 0 as cuts.length)) = _; rw [this.2]; exact hr⟩
theorem fits_count (hb : InB cuts.length fills.length ws) : (((fitsL cuts.length fills.length ws).length : Nat) : Int) = manyL cuts.length (bndL cuts.length fills.length ws) := by
  have h := congrArg List.length (fits_ranks hb)
  rw [List.length_map, List.length_map, List.length_range] at h
  have := many_nonneg cuts.length fills.length ws
  omega
theorem fits_at (hb : InB cuts.length fills.length ws) {k : Nat} {o : List Bool} (h : (fitsL cuts.length fills.length ws)[k]? = some o) : rkO cuts.length fills.length ws o = (k : Int) := by
  have e := congrArg (fun l => l[k]?) (fits_ranks hb)
  have e : ((fitsL cuts.length fills.length ws).map (rkO cuts.length fills.length ws))[k]? = ((List.range (manyL cuts.length (bndL cuts.length fills.length ws)).toNat).map fun (k : Nat) => (k : Int))[k]? := e
  rw [List.getElem?_map, List.getElem?_map, h] at e
  have hk : k < (manyL cuts.length (bndL cuts.length fills.length ws)).toNat := by
    have h1 := (List.getElem?_eq_some_iff.mp h).1
    have h2 := fits_count hb
    omega
  rw [List.getElem?_range hk] at e
  exact Option.some.inj e
theorem order_listed {r : Bool} {d e k : D} {C : Cell → Prop} (hd : Sq d cuts) (he : Sq e fills) (hk : WsF r k ws) (hn : NoClash ws) (hl : ws.length ≤ 1000) (hcl : cuts.length ≤ 400) (hfl : fills.length ≤ 400) (hb : InB cuts.length fills.length ws) {j : Nat} {o : List Bool} (hj : (fitsL cuts.length fills.length ws)[j]? = some o) (hC : C (.val (.str (txt o)))) : g_order_atG g_ways_onA [d, e, k, .int (j : Int)] C := by
  have H := (mem_fits hb).mp (List.mem_of_getElem? hj)
  have hr := fits_at hb hj
  have hlt : (j : Int) < manyL cuts.length (bndL cuts.length fills.length ws) := by
    rw [← fits_count hb]
    exact Int.ofNat_lt.mpr (List.getElem?_eq_some_iff.mp hj).1
  refine ⟨d, e, k, cuts, fills, ws, j, rfl, hd, he, hcl, hfl, hb, ways_tell hd he hk hn hl hcl hfl hb, by omega, hlt, fun as hA hra => ?_⟩
  have ea := rank_inj hA (fits_of_has H) (hra.trans hr.symm)
  rw [ea, H.ord]
  exact hC
end
end Pl
namespace Pl
def fg : List Int → Int → Option Nat
  | [], _ => none
  | x :: r, s => if x ≤ s then some 0 else (fg r s).map (· + 1)
def fv : List Int → Int → Option Int
  | [], _ => none
  | x :: r, s => if x ≤ s then some x else fv r s
theorem fv_fg : ∀ (l : List Int) (s : Int), fv l s = (fg l s).map fun i => l.getD i 0
  | [], _ => rfl
  | x :: r, s => by
    unfold fv fg
    by_cases h : x ≤ s
    · rw [if_pos h, if_pos h]; rfl
    · rw [if_neg h, if_neg h, fv_fg r s, Option.map_map]
      rfl
theorem fg_some : ∀ {l : List Int} {s : Int} {i : Nat}, fg l s = some i → i < l.length ∧ l.getD i 0 ≤ s ∧ ∀ k, k < i → s < l.getD k 0
  | [], _, _, h => nomatch h
  | x :: r, s, i, h => by
    unfold fg at h
    by_cases hx : x ≤ s
    · rw [if_pos hx] at h
      cases h
      exact ⟨Nat.zero_lt_succ _, hx, fun k hk => absurd hk (Nat.not_lt_zero _)⟩
    · rw [if_neg hx] at h
      cases e : fg r s with
      | none => rw [e] at h; cases h
      | some j =>
        rw [e] at h
        cases h
        obtain ⟨h1, h2, h3⟩ := fg_some e
        refine ⟨Nat.succ_lt_succ h1, h2, fun k hk => ?_⟩
        cases k with
        | zero => exact Int.not_le.mp hx
        | succ k => exact h3 k (Nat.lt_of_succ_lt_succ hk)
theorem fg_mono {l : List Int} {s t : Int} {i j : Nat} (h : s ≤ t) (h1 : fg l t = some i) (h2 : fg l s = some j) : i ≤ j := by
  obtain ⟨_, a2, a3⟩ := fg_some h1
  obtain ⟨_, b2, _⟩ := fg_some h2
  refine Nat.not_lt.mp fun z => ?_
  have := a3 j z
  omega
theorem fv_none {l : List Int} {s : Int} : fv l s = none ↔ ∀ x ∈ l, s < x := by
  induction l with
  | nil => exact ⟨fun _ x hx => absurd hx (by simp), fun _ => rfl⟩
  | cons x r ih =>
    unfold fv
    by_cases h : x ≤ s
    · rw [if_pos h]
      exact ⟨(fun z => nomatch z), fun z => absurd (z x List.mem_cons_self) (by omega)⟩
    · rw [if_neg h, ih]
      exact ⟨fun z y hy => (List.mem_cons.mp hy).elim (fun e => by subst e; omega) (z y), fun z y hy => z y (List.mem_cons_of_mem _ hy)⟩
def meetF (cuts fills : List Int) : List Int → List (Nat × Nat) → List (Nat × Nat)
  | [], acc => acc
  | s :: r, acc => match fg cuts s, fg fills s with
    | some i, some j => if (i, j) ∈ acc then meetF cuts fills r acc else meetF cuts fills r (acc ++ [(i, j)])
    | _, _ => meetF cuts fills r acc
def Met (cuts fills : List Int) (top : Int) (acc : List (Nat × Nat)) : Prop := acc = [] ∨ ∃ a p t, acc = a ++ [p] ∧ top ≤ t ∧ fg cuts t = some p.1 ∧ fg fills t = some p.2 ∧ ∀ q ∈ acc, q.1 ≤ p.1 ∧ q.2 ≤ p.2
end Pl
namespace Pl
theorem desc_unique {S T : List Int} (h : S.Perm T) (h1 : S.Pairwise (· ≥ ·)) (h2 : T.Pairwise (· ≥ ·)) : S = T := h.eq_of_pairwise (le := (· ≥ ·)) (fun a b _ _ x y => by have x : b ≤ a := x; have y : a ≤ b := y; omega) h1 h2
def sortD (l : List Int) : List Int := l.mergeSort (fun a b => decide (b ≤ a))
theorem sortD_perm (l : List Int) : (sortD l).Perm l := List.mergeSort_perm _ _
theorem sortD_pw (l : List Int) : (sortD l).Pairwise (· ≥ ·) := (List.pairwise_mergeSort (le := fun a b : Int => decide (b ≤ a)) (fun a b c h1 h2 => decide_eq_true (by
  have h1 := of_decide_eq_true h1
  have h2 := of_decide_eq_true h2
  omega)) (fun a b => by
  rcases Int.le_total b a with h | h
  · simp [h]
  · simp [h]) l).imp fun h => of_decide_eq_true h
end Pl
namespace Pl
def Le2 (p q : Nat × Nat) : Prop := p.1 ≤ q.1 ∧ p.2 ≤ q.2
theorem meet_rise {cuts fills : List Int} : ∀ {S : List Int} {acc : List (Nat × Nat)} {top : Int}, S.Pairwise (· ≥ ·) → (∀ s ∈ S, s ≤ top) → Met cuts fills top acc → acc.Pairwise Le2 →
    (meetF cuts fills S acc).Pairwise Le2 ∧ (meetF cuts fills S acc).length ≤ acc.length + S.length
  | [], acc, top, _, _, _, hr => ⟨hr, Nat.le_refl _⟩
  | s :: S, acc, top, hp, ht, hM, hr => by
    have hp1 : ∀ t ∈ S, t ≤ s := fun t ht => List.rel_of_pairwise_cons hp ht
    have hp2 := hp.of_cons
    have hs := ht s List.mem_cons_self
    have low : Met cuts fills s acc := by
      rcases hM with h | ⟨a, p, t, h1, h2, h3⟩
      · exact .inl h
      · exact .inr ⟨a, p, t, h1, Int.le_trans hs h2, h3⟩
    have more : ∀ {acc : List (Nat × Nat)}, (meetF cuts fills S acc).Pairwise Le2 ∧ (meetF cuts fills S acc).length ≤ acc.length + S.length → (meetF cuts fills S acc).Pairwise Le2 ∧ (meetF cuts fills S acc).length ≤ acc.length + (S.length + 1) := fun h => ⟨h.1, by have := h.2; omega⟩
    show (meetF cuts fills (s :: S) acc).Pairwise Le2 ∧ (meetF cuts fills (s :: S) acc).length ≤ acc.length + (S.length + 1)
    unfold meetF
    cases e1 : fg cuts s with
    | none => exact more (meet_rise hp2 hp1 low hr)
    | some i =>
      cases e2 : fg fills s with
      | none => exact more (meet_rise hp2 hp1 low hr)
      | some j =>
        show (if (i, j) ∈ acc then meetF cuts fills S acc else meetF cuts fills S (acc ++ [(i, j)])).Pairwise Le2 ∧ (if (i, j) ∈ acc then meetF cuts fills S acc else meetF cuts fills S (acc ++ [(i, j)])).length ≤ _
        by_cases hin : (i, j) ∈ acc
        · rw [if_pos hin]; exact more (meet_rise hp2 hp1 low hr)
        · rw [if_neg hin]
          have up : ∀ q ∈ acc, q.1 ≤ i ∧ q.2 ≤ j := fun q hq => by
            rcases low with h | ⟨a, p, t, h1, h2, h3, h4, h5⟩
            · subst h; exact absurd hq (by simp)
            · have := h5 q hq
              exact ⟨Nat.le_trans this.1 (fg_mono h2 h3 e1), Nat.le_trans this.2 (fg_mono h2 h4 e2)⟩
          have M2 : Met cuts fills s (acc ++ [(i, j)]) := .inr ⟨acc, (i, j), s, rfl, Int.le_refl _, e1, e2, fun q hq => by
            rcases List.mem_append.mp hq with hq | hq
            · exact up q hq
            · rw [List.mem_singleton.mp hq]; exact ⟨Nat.le_refl _, Nat.le_refl _⟩⟩
          have R2 : (acc ++ [(i, j)]).Pairwise Le2 := List.pairwise_append.mpr ⟨hr, by simp, fun a ha b hb => by
            rw [List.mem_singleton.mp hb]; exact up a ha⟩
          have := meet_rise hp2 hp1 M2 R2
          refine ⟨this.1, ?_⟩
          have := this.2
          rw [List.length_append] at this
          simp at this
          omega
def meetL (cuts fills : List Int) : List (Nat × Nat) := meetF cuts fills (sortD (cuts ++ fills)) []
theorem meetL_rise (cuts fills : List Int) : (meetL cuts fills).Pairwise Le2 ∧ (meetL cuts fills).length ≤ cuts.length + fills.length := by
  have hl : (sortD (cuts ++ fills)).length = cuts.length + fills.length := by rw [(sortD_perm _).length_eq, List.length_append]
  have hp := sortD_pw (cuts ++ fills)
  unfold meetL
  rw [← hl]
  generalize sortD (cuts ++ fills) = S at hp
  cases S with
  | nil => exact ⟨.nil, Nat.le_refl _⟩
  | cons s r =>
    have := meet_rise (cuts := cuts) (fills := fills) (S := s :: r) (acc := []) (top := s) hp (fun t ht => (List.mem_cons.mp ht).elim (fun e => by subst e; exact Int.le_refl _) fun h => List.rel_of_pairwise_cons hp h) (.inl rfl) .nil
    rw [List.length_nil, Nat.zero_add] at this
    exact this
end Pl
namespace Pl
open PySem PySem.Spec PyProof.Rows L2
theorem ahead_get_ge (o : List Bool) (k f : Nat) (h : f < cF o) : k ≤ (aheadL k o).getD f 0 := by
  have hl : f < (aheadL k o).length := by rw [aheadL_len]; exact h
  rw [List.getD_eq_getElem?_getD, List.getElem?_eq_getElem hl]
  exact (aheadL_le o k _ (List.getElem_mem hl)).1
theorem drop_cons {l : List Int} {i : Nat} (h : i < l.length) : l.drop i = l.getD i 0 :: l.drop (i + 1) := by
  rw [List.drop_eq_getElem_cons h, List.getD_eq_getElem?_getD, List.getElem?_eq_getElem h]; rfl
end Pl
namespace Pl
open PySem PySem.Spec PyProof.Rows L2
def mix (b : Nat → Nat → Bool) : Option Nat → Option Nat → Option Bool
  | none, none => none
  | some _, none => some true
  | none, some _ => some false
  | some i, some j => some (b i j)
theorem fg_cons (c : Int) (r : List Int) (x : Int) : fg (c :: r) x = if c ≤ x then some 0 else (fg r x).map (· + 1) := rfl
theorem fs_alm (cuts fills : List Int) (x : Int) : ∀ (o : List Bool) (i j k : Nat), i + cT o = cuts.length → j + cF o = fills.length →
    fs (almL cuts fills i j o) x = mix (fun a b => decide (a + k < (aheadL k o).getD b 0)) (fg (cuts.drop i) x) (fg (fills.drop j) x)
  | [], i, j, k, h1, h2 => by
    have h1 : i + 0 = cuts.length := h1
    have h2 : j + 0 = fills.length := h2
    rw [List.drop_eq_nil_of_le (by omega), List.drop_eq_nil_of_le (by omega)]
    rfl
  | true :: o, i, j, k, h1, h2 => by
    have h1 : i + (cT o + 1) = cuts.length := h1
    have h2 : j + cF o = fills.length := h2
    have hi : i < cuts.length := by omega
    have ih := fs_alm cuts fills x o (i + 1) j (k + 1) (by omega) h2
    have ed := drop_cons hi
    rw [ed, fg_cons]
    show (if cuts.getD i 0 ≤ x then some true else fs (almL cuts fills (i + 1) j o) x) = _
    by_cases hc : cuts.getD i 0 ≤ x
    · rw [if_pos hc, if_pos hc]
      cases e : fg (fills.drop j) x with
      | none => rfl
      | some b =>
        have hb := (fg_some e).1
        rw [List.length_drop] at hb
        show some true = some (decide (0 + k < (aheadL (k + 1) o).getD b 0))
        have := ahead_get_ge o (k + 1) b (by omega)
        rw [decide_eq_true (by omega)]
    · rw [if_neg hc, if_neg hc, ih]
      cases e1 : fg (cuts.drop (i + 1)) x with
      | none =>
        cases e : fg (fills.drop j) x <;> rfl
      | some a =>
        cases e : fg (fills.drop j) x with
        | none => rfl
        | some b =>
          show some (decide (a + (k + 1) < (aheadL (k + 1) o).getD b 0)) = some (decide (a + 1 + k < (aheadL (k + 1) o).getD b 0))
          rw [show a + (k + 1) = a + 1 + k by omega]
  | false :: o, i, j, k, h1, h2 => by
    have h1 : i + cT o = cuts.length := h1
    have h2 : j + (cF o + 1) = fills.length := h2
    have hj : j < fills.length := by omega
    have ih := fs_alm cuts fills x o i (j + 1) k h1 (by omega)
    have ed := drop_cons hj
    rw [ed, fg_cons]
    show (if fills.getD j 0 ≤ x then some false else fs (almL cuts fills i (j + 1) o) x) = _
    by_cases hc : fills.getD j 0 ≤ x
    · rw [if_pos hc, if_pos hc]
      cases e : fg (cuts.drop i) x with
      | none => rfl
      | some a =>
        show some false = some (decide (a + k < (k :: aheadL k o).getD 0 0))
        rw [decide_eq_false (by show ¬ a + k < k; omega)]
    · rw [if_neg hc, if_neg hc, ih]
      cases e1 : fg (cuts.drop i) x with
      | none => cases e : fg (fills.drop (j + 1)) x <;> rfl
      | some a => cases e : fg (fills.drop (j + 1)) x <;> rfl
theorem mem_meetF {cuts fills : List Int} {q : Nat × Nat} : ∀ {S : List Int} {acc : List (Nat × Nat)}, q ∈ meetF cuts fills S acc ↔ q ∈ acc ∨ ∃ s ∈ S, fg cuts s = some q.1 ∧ fg fills s = some q.2
  | [], acc => by simp [meetF]
  | s :: S, acc => by
    have ih := fun acc => mem_meetF (cuts := cuts) (fills := fills) (q := q) (S := S) (acc := acc)
    unfold meetF
    cases e1 : fg cuts s with
    | none =>
      simp only
      rw [ih]
      simp [e1]
    | some i =>
      cases e2 : fg fills s with
      | none =>
        simp only
        rw [ih]
        simp [e2]
      | some j =>
        simp only
        have mm : (∃ t ∈ s :: S, fg cuts t = some q.1 ∧ fg fills t = some q.2) ↔ q = (i, j) ∨ ∃ t ∈ S, fg cuts t = some q.1 ∧ fg fills t = some q.2 := by
          constructor
          · rintro ⟨t, ht, h1, h2⟩
            rcases List.mem_cons.mp ht with rfl | ht
            · rw [e1] at h1; rw [e2] at h2
              cases h1; cases h2
              exact .inl rfl
            · exact .inr ⟨t, ht, h1, h2⟩
          · rintro (rfl | ⟨t, ht, h⟩)
            · exact ⟨s, List.mem_cons_self, e1, e2⟩
            · exact ⟨t, List.mem_cons_of_mem _ ht, h⟩
        rw [mm]
        by_cases hin : (i, j) ∈ acc
        · rw [if_pos hin, ih]
          constructor
          · rintro (h | h)
            · exact .inl h
            · exact .inr (.inr h)
          · rintro (h | rfl | h)
            · exact .inl h
            · exact .inl hin
            · exact .inr h
        · rw [if_neg hin, ih, List.mem_append, List.mem_singleton]
          constructor
          · rintro ((h | h) | h)
            · exact .inl h
            · exact .inr (.inl h)
            · exact .inr (.inr h)
          · rintro (h | h | h)
            · exact .inl (.inl h)
            · exact .inl (.inr h)
            · exact .inr h
theorem fg_near {s t : Int} (h : s ≤ t) : ∀ {l : List Int}, (∀ x ∈ l, x ≤ t → x ≤ s) → fg l t = fg l s
  | [], _ => rfl
  | x :: r, z => by
    unfold fg
    by_cases hx : x ≤ s
    · rw [if_pos hx, if_pos (Int.le_trans hx h)]
    · rw [if_neg hx, if_neg fun q => hx (z x List.mem_cons_self q), fg_near h fun y hy => z y (List.mem_cons_of_mem _ hy)]
theorem top_below (x : Int) : ∀ l : List Int, (∃ y ∈ l, y ≤ x) → ∃ y ∈ l, y ≤ x ∧ ∀ z ∈ l, z ≤ x → z ≤ y
  | [], h => by obtain ⟨y, hy, _⟩ := h; cases hy
  | a :: l, h => by
    by_cases hl : ∃ y ∈ l, y ≤ x
    · obtain ⟨y, hy, h1, h2⟩ := top_below x l hl
      by_cases ha : a ≤ x ∧ y ≤ a
      · refine ⟨a, List.mem_cons_self, ha.1, fun z hz hzx => ?_⟩
        rcases List.mem_cons.mp hz with rfl | hz
        · exact Int.le_refl _
        · have := h2 z hz hzx; omega
      · refine ⟨y, List.mem_cons_of_mem _ hy, h1, fun z hz hzx => ?_⟩
        rcases List.mem_cons.mp hz with rfl | hz
        · omega
        · exact h2 z hz hzx
    · obtain ⟨y, hy, hyx⟩ := h
      rcases List.mem_cons.mp hy with rfl | hy
      · refine ⟨y, List.mem_cons_self, hyx, fun z hz hzx => ?_⟩
        rcases List.mem_cons.mp hz with rfl | hz
        · exact Int.le_refl _
        · exact absurd ⟨z, hz, hzx⟩ hl
      · exact absurd ⟨y, hy, hyx⟩ hl
theorem mem_meetL {cuts fills : List Int} {q : Nat × Nat} : q ∈ meetL cuts fills ↔ ∃ x, fg cuts x = some q.1 ∧ fg fills x = some q.2 := by
  unfold meetL
  rw [mem_meetF]
  constructor
  · rintro (h | ⟨s, _, h⟩)
    · cases h
    · exact ⟨s, h⟩
  · rintro ⟨x, h1, h2⟩
    obtain ⟨a1, a2, _⟩ := fg_some h1
    have am : cuts.getD q.1 0 ∈ cuts := by
      rw [List.getD_eq_getElem?_getD, List.getElem?_eq_getElem a1]
      exact List.getElem_mem a1
    obtain ⟨y, hy, hyx, hz⟩ := top_below x (sortD (cuts ++ fills)) ⟨_, (sortD_perm _).mem_iff.mpr (List.mem_append_left _ am), a2⟩
    refine .inr ⟨y, hy, ?_, ?_⟩
    · rw [← h1]
      exact (fg_near hyx fun z hz' hzx => hz z ((sortD_perm _).mem_iff.mpr (List.mem_append_left _ hz')) hzx).symm
    · rw [← h2]
      exact (fg_near hyx fun z hz' hzx => hz z ((sortD_perm _).mem_iff.mpr (List.mem_append_right _ hz')) hzx).symm
theorem meetL_in {cuts fills : List Int} {q : Nat × Nat} (h : q ∈ meetL cuts fills) : q.1 < cuts.length ∧ q.2 < fills.length := by
  obtain ⟨x, h1, h2⟩ := mem_meetL.mp h
  exact ⟨(fg_some h1).1, (fg_some h2).1⟩
abbrev ordB (cuts fills : List Int) (o : List Bool) : Prop := cT o = cuts.length ∧ cF o = fills.length
def sideO (o : List Bool) (q : Nat × Nat) : Bool := decide (q.1 < (aheadL 0 o).getD q.2 0)
def rowO (cuts fills : List Int) (o : List Bool) : List Wo := (meetL cuts fills).map fun q => (sideO o q, q)
abbrev alm (cuts fills : List Int) (o : List Bool) : List Wd := almL cuts fills 0 0 o
theorem fs_alm0 {cuts fills : List Int} {o : List Bool} (h : ordB cuts fills o) (x : Int) : fs (alm cuts fills o) x = mix (fun a b => sideO o (a, b)) (fg cuts x) (fg fills x) := by
  exact fs_alm cuts fills x o 0 0 0 (by rw [Nat.zero_add]; exact h.1) (by rw [Nat.zero_add]; exact h.2)
theorem core_row {cuts fills : List Int} {o p : List Bool} (ho : ordB cuts fills o) (hp : ordB cuts fills p) : coreL (alm cuts fills o) = coreL (alm cuts fills p) ↔ rowO cuts fills o = rowO cuts fills p := by
  rw [core_eq]
  constructor
  · intro h
    refine List.map_congr_left fun q hq => ?_
    obtain ⟨x, h1, h2⟩ := mem_meetL.mp hq
    have := h x
    rw [fs_alm0 ho, fs_alm0 hp, h1, h2] at this
    rw [show sideO o q = sideO p q from Option.some.inj this]
  · intro h x
    rw [fs_alm0 ho, fs_alm0 hp]
    cases e1 : fg cuts x with
    | none => cases fg fills x <;> rfl
    | some i =>
      cases e2 : fg fills x with
      | none => rfl
      | some j =>
        have hq : (i, j) ∈ meetL cuts fills := mem_meetL.mpr ⟨x, e1, e2⟩
        have := (List.map_inj_left.mp h) (i, j) hq
        show some (sideO o (i, j)) = some (sideO p (i, j))
        rw [(Prod.mk.inj this).1]
theorem row_has {cuts fills : List Int} {o : List Bool} (h : ordB cuts fills o) : Has cuts fills o (rowO cuts fills o) := ⟨h.1, h.2, fun w hw => by
  obtain ⟨q, hq, rfl⟩ := List.mem_map.mp hw
  exact meetL_in hq, fun w hw => by
  obtain ⟨q, hq, rfl⟩ := List.mem_map.mp hw
  show (sideO o q == sideO o q) = true
  exact beq_self_eq_true _⟩
def OneEach (cuts fills : List Int) (ws : List Wo) : Prop := ws.map (·.2) = meetL cuts fills
theorem one_row (cuts fills : List Int) (o : List Bool) : OneEach cuts fills (rowO cuts fills o) := by
  unfold OneEach rowO
  rw [List.map_map]
  exact List.map_id _
theorem row_of_has {cuts fills : List Int} {o : List Bool} {ws : List Wo} (h1 : OneEach cuts fills ws) (H : Has cuts fills o ws) : rowO cuts fills o = ws := by
  unfold rowO
  rw [← h1, List.map_map]
  refine (List.map_congr_left fun w hw => ?_).trans (List.map_id _)
  have := H.h w hw
  have e : (w.1 == sideO o w.2) = true := this
  show (sideO o w.2, w.2) = w
  rw [← eq_of_beq e]
def NbOk : List Wo → Prop
  | u :: v :: r => contr u v = false ∧ NbOk (v :: r)
  | _ => True
theorem contr_far {u v w : Wo} (h1 : Le2 u.2 v.2) (h2 : Le2 v.2 w.2) (a : contr u v = false) (b : contr v w = false) : contr u w = false := by
  obtain ⟨x, p1, p2⟩ := u
  obtain ⟨y, q1, q2⟩ := v
  obtain ⟨z, r1, r2⟩ := w
  obtain ⟨h11, h12⟩ := h1
  obtain ⟨h21, h22⟩ := h2
  have h11 : p1 ≤ q1 := h11
  have h12 : p2 ≤ q2 := h12
  have h21 : q1 ≤ r1 := h21
  have h22 : q2 ≤ r2 := h22
  cases x <;> cases y <;> cases z <;> simp [contr] at a b ⊢ <;> omega
theorem nb_head {u : Wo} : ∀ {r : List Wo}, NbOk (u :: r) → ((u :: r).map (·.2)).Pairwise Le2 → ∀ w ∈ r, contr u w = false
  | [], _, _, w, hw => by cases hw
  | v :: r, h, hp, w, hw => by
    rcases List.mem_cons.mp hw with rfl | hw
    · exact h.1
    · rw [List.map_cons, List.map_cons, List.pairwise_cons, List.pairwise_cons] at hp
      refine contr_far (hp.1 _ List.mem_cons_self) (hp.2.1 _ (List.mem_map.mpr ⟨w, hw, rfl⟩)) h.1 ?_
      exact nb_head h.2 (by rw [List.map_cons, List.pairwise_cons]; exact hp.2) w hw
theorem NbOk.tail {u : Wo} {r : List Wo} (h : NbOk (u :: r)) : NbOk r := by
  cases r with
  | nil => trivial
  | cons v r => exact h.2
theorem nb_noclash : ∀ {ws : List Wo}, NbOk ws → (ws.map (·.2)).Pairwise Le2 → NoClash ws
  | [], _, _, u, hu, _, _ => by cases hu
  | u :: r, h, hp, x, hx, y, hy => by
    have hd := nb_head h hp
    have ih := nb_noclash h.tail (by rw [List.map_cons] at hp; exact hp.of_cons)
    rcases List.mem_cons.mp hx with ex | hx'
    · rcases List.mem_cons.mp hy with ey | hy'
      · rw [ex, ey]; exact contr_self _
      · rw [ex]; exact hd y hy'
    · rcases List.mem_cons.mp hy with ey | hy'
      · rw [ey, contr_symm]; exact hd x hx'
      · exact ih x hx' y hy'
theorem nb_of : ∀ {ws : List Wo}, NoClash ws → NbOk ws
  | [], _ => trivial
  | [_], _ => trivial
  | u :: v :: r, h => ⟨h u List.mem_cons_self v (List.mem_cons_of_mem _ List.mem_cons_self), nb_of fun a ha b hb => h a (List.mem_cons_of_mem _ ha) b (List.mem_cons_of_mem _ hb)⟩
def okNext (row : List Wo) (w : Wo) : Bool := match row.getLast? with
  | none => true
  | some u => !contr u w
def stepR (q : Nat × Nat) (rows : List (List Wo)) : List (List Wo) := rows.flatMap fun row => ([(true, q), (false, q)].filter (okNext row)).map fun w => row ++ [w]
def rowsF : List (Nat × Nat) → List (List Wo) → List (List Wo)
  | [], rows => rows
  | q :: qs, rows => rowsF qs (stepR q rows)
def rowsA (cuts fills : List Int) : List (List Wo) := rowsF (meetL cuts fills) [[]]
theorem nb_snoc {w : Wo} : ∀ {row : List Wo}, NbOk (row ++ [w]) ↔ NbOk row ∧ okNext row w = true
  | [] => ⟨fun _ => ⟨trivial, rfl⟩, fun _ => trivial⟩
  | [u] => by simp [NbOk, okNext]
  | u :: v :: r => by
    have ih := nb_snoc (w := w) (row := v :: r)
    have e : okNext (u :: v :: r) w = okNext (v :: r) w := by unfold okNext; rw [List.getLast?_cons_cons]
    rw [e]
    show (contr u v = false ∧ NbOk ((v :: r) ++ [w])) ↔ (contr u v = false ∧ NbOk (v :: r)) ∧ _
    rw [ih, and_assoc]
theorem mem_stepR {q : Nat × Nat} {rows : List (List Wo)} {x : List Wo} : x ∈ stepR q rows ↔ ∃ row ∈ rows, ∃ b, x = row ++ [(b, q)] ∧ okNext row (b, q) = true := by
  unfold stepR
  rw [List.mem_flatMap]
  constructor
  · rintro ⟨row, hr, hx⟩
    obtain ⟨w, hw, rfl⟩ := List.mem_map.mp hx
    obtain ⟨hw1, hw2⟩ := List.mem_filter.mp hw
    rcases List.mem_cons.mp hw1 with rfl | hw1
    · exact ⟨row, hr, true, rfl, hw2⟩
    · rw [List.mem_singleton.mp hw1] at hw2 ⊢
      exact ⟨row, hr, false, rfl, hw2⟩
  · rintro ⟨row, hr, b, rfl, hb⟩
    exact ⟨row, hr, List.mem_map.mpr ⟨(b, q), List.mem_filter.mpr ⟨by cases b <;> simp, hb⟩, rfl⟩⟩
theorem mem_rowsF : ∀ {qs : List (Nat × Nat)} {rows : List (List Wo)} {pre : List (Nat × Nat)}, (∀ x, x ∈ rows ↔ x.map (·.2) = pre ∧ NbOk x) → ∀ x, x ∈ rowsF qs rows ↔ x.map (·.2) = pre ++ qs ∧ NbOk x
  | [], rows, pre, h, x => by rw [List.append_nil]; exact h x
  | q :: qs, rows, pre, h, x => by
    have h2 : ∀ y, y ∈ stepR q rows ↔ y.map (·.2) = pre ++ [q] ∧ NbOk y := fun y => by
      rw [mem_stepR]
      constructor
      · rintro ⟨row, hr, b, rfl, hb⟩
        obtain ⟨e1, e2⟩ := (h row).mp hr
        exact ⟨by rw [List.map_append, e1]; rfl, nb_snoc.mpr ⟨e2, hb⟩⟩
      · rintro ⟨e1, e2⟩
        have hne : y ≠ [] := fun z => by subst z; simp at e1
        obtain ⟨row, w, rfl⟩ : ∃ row w, y = row ++ [w] := ⟨y.dropLast, y.getLast hne, (List.dropLast_concat_getLast hne).symm⟩
        rw [List.map_append] at e1
        obtain ⟨e3, e4⟩ := List.append_inj' e1 rfl
        obtain ⟨e5, e6⟩ := nb_snoc.mp e2
        obtain ⟨b, w2⟩ := w
        have e4 : [w2] = [q] := e4
        cases e4
        exact ⟨row, (h row).mpr ⟨e3, e5⟩, b, rfl, e6⟩
    have := mem_rowsF (qs := qs) h2 x
    rw [List.append_assoc] at this
    exact this
theorem mem_rowsA {cuts fills : List Int} {ws : List Wo} : ws ∈ rowsA cuts fills ↔ OneEach cuts fills ws ∧ NbOk ws := by
  unfold rowsA OneEach
  have := mem_rowsF (qs := meetL cuts fills) (rows := [[]]) (pre := []) (fun x => ⟨fun h => by rw [List.mem_singleton.mp h]; exact ⟨rfl, trivial⟩, fun h => by
    rw [List.map_eq_nil_iff.mp h.1]; exact List.mem_singleton.mpr rfl⟩) ws
  rw [List.nil_append] at this
  exact this
theorem rows_noclash {cuts fills : List Int} {ws : List Wo} (h : ws ∈ rowsA cuts fills) : NoClash ws ∧ InB cuts.length fills.length ws := by
  obtain ⟨h1, h2⟩ := mem_rowsA.mp h
  refine ⟨nb_noclash h2 (by rw [h1]; exact (meetL_rise cuts fills).1), fun w hw => ?_⟩
  have : w.2 ∈ meetL cuts fills := by rw [← h1]; exact List.mem_map.mpr ⟨w, hw, rfl⟩
  exact meetL_in this
theorem row_in {cuts fills : List Int} {o : List Bool} (h : ordB cuts fills o) : rowO cuts fills o ∈ rowsA cuts fills := mem_rowsA.mpr ⟨one_row _ _ _, nb_of (row_has h).no⟩
theorem rows_len {cuts fills : List Int} {ws : List Wo} (h : ws ∈ rowsA cuts fills) : ws.length ≤ cuts.length + fills.length := by
  have := congrArg List.length (mem_rowsA.mp h).1
  rw [List.length_map] at this
  rw [this]
  exact (meetL_rise cuts fills).2
def firstO (cuts fills : List Int) (ws : List Wo) : List Bool := (fitsL cuts.length fills.length ws).headD []
theorem first_at {cuts fills : List Int} {ws : List Wo} (hb : InB cuts.length fills.length ws) (hn : NoClash ws) : (fitsL cuts.length fills.length ws)[0]? = some (firstO cuts fills ws) := by
  have := (mem_fits hb).mpr (noclash_has hb hn)
  unfold firstO
  cases e : fitsL cuts.length fills.length ws with
  | nil => rw [show (allO cuts.length fills.length).filter (hasAll ws) = fitsL cuts.length fills.length ws from rfl, e] at this; cases this
  | cons a l => rfl
theorem first_has {cuts fills : List Int} {ws : List Wo} (hb : InB cuts.length fills.length ws) (hn : NoClash ws) : Has cuts fills (firstO cuts fills ws) ws := (mem_fits hb).mp (List.mem_of_getElem? (first_at hb hn))
theorem first_row {cuts fills : List Int} {ws : List Wo} (h : ws ∈ rowsA cuts fills) : rowO cuts fills (firstO cuts fills ws) = ws ∧ ordB cuts fills (firstO cuts fills ws) := by
  obtain ⟨hn, hb⟩ := rows_noclash h
  have H := first_has hb hn
  exact ⟨row_of_has (mem_rowsA.mp h).1 H, H.t, H.f⟩
def firstsL (cuts fills : List Int) : List (List Bool) := (rowsA cuts fills).map (firstO cuts fills)
def LtO (a b : List Bool) : Prop := (a.map sg) < (b.map sg)
theorem allO_rise : ∀ (n c f : Nat), c + f ≤ n → (allO c f).Pairwise LtO
  | n, 0, f, _ => by rw [allO]; exact List.pairwise_singleton _ _
  | n, c + 1, 0, _ => by rw [allO]; exact List.pairwise_singleton _ _
  | n + 1, c + 1, f + 1, h => by
    rw [allO, List.pairwise_append]
    refine ⟨List.pairwise_map.mpr ((allO_rise n c (f + 1) (by omega)).imp fun h => List.Lex.cons h), List.pairwise_map.mpr ((allO_rise n (c + 1) f (by omega)).imp fun h => List.Lex.cons h), fun a ha b hb => ?_⟩
    obtain ⟨x, _, rfl⟩ := List.mem_map.mp ha
    obtain ⟨y, _, rfl⟩ := List.mem_map.mp hb
    exact List.Lex.rel (by decide)
  | 0, c + 1, f + 1, h => by omega
theorem ltO_irrefl (a : List Bool) : ¬ LtO a a := fun h => List.lt_irrefl _ h
theorem ltO_trans {a b c : List Bool} (h1 : LtO a b) (h2 : LtO b c) : LtO a c := List.lt_trans h1 h2
theorem ltO_asymm {a b : List Bool} (h1 : LtO a b) : ¬ LtO b a := fun h2 => ltO_irrefl a (ltO_trans h1 h2)
theorem first_le {cuts fills : List Int} {o : List Bool} (h : ordB cuts fills o) : firstO cuts fills (rowO cuts fills o) = o ∨ LtO (firstO cuts fills (rowO cuts fills o)) o := by
  have hb := (row_has h).b
  have hn := (row_has h).no
  have hm : o ∈ fitsL cuts.length fills.length (rowO cuts fills o) := (mem_fits hb).mpr (row_has h)
  have hp := ((allO_rise _ cuts.length fills.length (Nat.le_refl _)).filter (hasAll (rowO cuts fills o)))
  have h0 := first_at hb hn
  unfold fitsL at hm h0
  cases e : (allO cuts.length fills.length).filter (hasAll (rowO cuts fills o)) with
  | nil => rw [e] at hm; cases hm
  | cons a l =>
    rw [e] at hm hp h0
    have ea : a = firstO cuts fills (rowO cuts fills o) := Option.some.inj h0
    rw [← ea]
    rcases List.mem_cons.mp hm with rfl | hm
    · exact .inl rfl
    · exact .inr ((List.pairwise_cons.mp hp).1 o hm)
theorem mem_all {cuts fills : List Int} {o : List Bool} : o ∈ allO cuts.length fills.length ↔ ordB cuts fills o := mem_allO _ _ _ (Nat.le_refl _) o
theorem firsts_ord {cuts fills : List Int} {o : List Bool} (h : o ∈ firstsL cuts fills) : ordB cuts fills o := by
  obtain ⟨ws, hw, rfl⟩ := List.mem_map.mp h
  exact (first_row hw).2
theorem cover {cuts fills : List Int} {o : List Bool} (h : ordB cuts fills o) : ∃ p ∈ firstsL cuts fills, coreL (alm cuts fills p) = coreL (alm cuts fills o) ∧ (p = o ∨ LtO p o) := by
  have hr := row_in h
  refine ⟨_, List.mem_map.mpr ⟨_, hr, rfl⟩, ?_, first_le h⟩
  obtain ⟨e1, e2⟩ := first_row hr
  exact (core_row e2 h).mpr e1
end Pl
namespace Pl
open PySem PySem.Spec PyProof.Rows L2
def optN : Option Nat → D
  | none => .non
  | some i => .int (i : Int)
def g_first_gentle : FA := fun ds C => ∃ d l s, ds = [d, .int s] ∧ Sq d l ∧ C (.val (optN (fg l s)))
theorem fg_here {x s : Int} {r : List Int} {k : Nat} (h : x ≤ s) : (fg (x :: r) s).map (· + k) = some k := by
  unfold fg
  rw [if_pos h, Option.map_some, Nat.zero_add]
theorem fg_next {x s : Int} {r : List Int} {k : Nat} (h : ¬ x ≤ s) : (fg (x :: r) s).map (· + k) = (fg r s).map (· + (k + 1)) := by
  show (if x ≤ s then some 0 else (fg r s).map (· + 1)).map (· + k) = _
  rw [if_neg h, Option.map_map]
  congr 1
  funext n
  show n + 1 + k = n + (k + 1)
  omega
theorem rd_first_gentleT (l : List Int) (s : Int) (C : Cell → Prop) (hC : C (.val (optN (fg l s)))) : T_first_gentle (EA C) (startA N_first_gentle [.tup (dI l), .int s]) := by
  refine fr_en l (fun x => .int x) (fun k r ρ => ∃ w2 w3, fg l s = (fg r s).map (· + k) ∧ ρ = [some (.val (.tup (dI l))), some (.val (.int s)), w2, w3]) rfl ⟨_, _, by cases fg l s <;> rfl, rfl⟩ (fun k x r ρ K hI hK => ?_) (fun k ρ hI => ?_)
  · obtain ⟨w2, w3, e, rfl⟩ := hI
    refine ⟨rfl, rfl, ifB (fun h => ?_) (fun h => ?_)⟩
    · rw [fg_here (of_decide_eq_true h)] at e
      rw [e] at hC
      exact hC
    · exact hK _ ⟨_, _, e.trans (fg_next (of_decide_eq_false h)), rfl⟩
  · obtain ⟨w2, w3, e, rfl⟩ := hI
    have e : fg l s = none := e
    rw [e] at hC
    exact hC
theorem rd_first_gentleL (l : List Int) (s : Int) (C : Cell → Prop) (hC : C (.val (optN (fg l s)))) : T_first_gentle (EA C) (startA N_first_gentle [.lst (dI l), .int s]) := by
  refine fr_en l (fun x => .int x) (fun k r ρ => ∃ w2 w3, fg l s = (fg r s).map (· + k) ∧ ρ = [some (.val (.lst (dI l))), some (.val (.int s)), w2, w3]) rfl ⟨_, _, by cases fg l s <;> rfl, rfl⟩ (fun k x r ρ K hI hK => ?_) (fun k ρ hI => ?_)
  · obtain ⟨w2, w3, e, rfl⟩ := hI
    refine ⟨rfl, rfl, ifB (fun h => ?_) (fun h => ?_)⟩
    · rw [fg_here (of_decide_eq_true h)] at e
      rw [e] at hC
      exact hC
    · exact hK _ ⟨_, _, e.trans (fg_next (of_decide_eq_false h)), rfl⟩
  · obtain ⟨w2, w3, e, rfl⟩ := hI
    have e : fg l s = none := e
    rw [e] at hC
    exact hC
theorem rd_first_gentle : ∀ ds C, ds.length = 2 → g_first_gentle ds C → T_first_gentle (EA C) (startA N_first_gentle ds) := by
  rintro ds C - ⟨d, l, s, rfl, hd, hC⟩
  rcases hd with rfl | rfl
  · exact rd_first_gentleT l s C hC
  · exact rd_first_gentleL l s C hC
def meD (q : Nat × Nat) : D := .tup [.int (q.1 : Int), .int (q.2 : Int)]
def mesD (l : List (Nat × Nat)) : List D := l.map meD
theorem mesD_len (l : List (Nat × Nat)) : (mesD l).length = l.length := List.length_map _
theorem canLay_pairs : ∀ l : List (Nat × Nat), PyData.canLayAll0 (toPys (mesD l)) = true
  | [] => rfl
  | q :: l => by
    show (PyData.canLay0 (toPy (meD q)) && PyData.canLayAll0 (toPys (mesD l))) = true
    rw [canLay_pairs l]; rfl
theorem depth_pairs : ∀ l : List (Nat × Nat), PyData.depthAll (toPys (mesD l)) ≤ 1
  | [] => by decide
  | q :: l => by
    show max (PyData.depth (toPy (meD q))) (PyData.depthAll (toPys (mesD l))) ≤ 1
    have := depth_pairs l
    have e : PyData.depth (toPy (meD q)) = 1 := rfl
    omega
theorem sh_pairs (l : List (Nat × Nat)) : (D.lst (mesD l)).sh := by
  show (PyData.canLayAll0 (toPys (mesD l)) && decide (PyData.depthAll (toPys (mesD l)) + 1 ≤ 64)) = true
  rw [canLay_pairs]
  have := depth_pairs l
  simp; omega
theorem sh_pr (q : Nat × Nat) : (meD q).sh := sh_tupI [(q.1 : Int), (q.2 : Int)]
theorem sh_opt2 (a b : Option Nat) : (D.tup [optN a, optN b]).sh := by
  cases a <;> cases b <;> rfl
theorem pair_eqv (p q : Nat × Nat) : (meD p).eqv (meD q) = decide (p = q) := by
  obtain ⟨a, b⟩ := p
  obtain ⟨c, d⟩ := q
  have := eqv_tupI [(a : Int), (b : Int)] [(c : Int), (d : Int)]
  refine this.trans (decide_eq_decide.mpr ?_)
  simp
  omega
theorem any_pairs (q : Nat × Nat) (l : List (Nat × Nat)) : ((mesD l).any fun z => z.eqv (meD q)) = decide (q ∈ l) := by
  induction l with
  | nil => rfl
  | cons p l ih =>
    show ((meD p).eqv (meD q) || (mesD l).any fun z => z.eqv (meD q)) = _
    rw [ih, pair_eqv]
    by_cases h : p = q
    · subst h; simp
    · have : q ≠ p := fun z => h z.symm
      simp [h, this]
def g_meetings : FA := fun ds C => ∃ d cuts e fills, ds = [d, e] ∧ Sq d cuts ∧ Sq e fills ∧ cuts.length ≤ 400 ∧ fills.length ≤ 400 ∧ ∀ p, C (.own p (mesD (meetL cuts fills)))
theorem rd_meetingsLL (cuts fills : List Int) (C : Cell → Prop) (h1 : cuts.length ≤ 400) (h2 : fills.length ≤ 400) (hC : ∀ p, C (.own p (mesD (meetL cuts fills)))) : T_meetings g_first_gentle (EA C) (startA N_meetings [.lst (dI cuts), .lst (dI fills)]) := by
  refine ⟨by show (0 : Nat) ≤ sizeLine; decide, fun p => ?_⟩
  refine ⟨Nat.le_trans (show (dI cuts ++ (dI fills ++ [])).length ≤ 1000 by rw [List.append_nil, List.length_append, ints_len, ints_len]; omega) (by decide), cuts ++ fills, by rw [List.append_nil]; unfold dI; rw [List.map_append], fun S hp hs => ?_⟩
  have eS : S = sortD (cuts ++ fills) := desc_unique (hp.trans (sortD_perm _).symm) hs (sortD_pw _)
  have hC : ∀ p, C (.own p (mesD (meetF cuts fills S []))) := by rw [eS]; exact hC
  have hl : S.length ≤ 800 := by rw [hp.length_eq, List.length_append]; omega
  refine fr_mp S (fun x => .int x) (fun r ρ => ∃ acc w3 w4, meetF cuts fills S [] = meetF cuts fills r acc ∧ acc.length + r.length ≤ S.length ∧ ρ = [some (.val (.lst (dI cuts))), some (.val (.lst (dI fills))), some (.own p (mesD acc)), w3, w4]) rfl ⟨[], _, _, rfl, by simp, rfl⟩ (fun s r ρ K hI hK => ?_) (fun ρ hI => ?_)
  · obtain ⟨acc, w3, w4, e, hacc, rfl⟩ := hI
    have hacc : acc.length + (r.length + 1) ≤ S.length := hacc
    refine ⟨rfl, _, cuts, s, rfl, .inr rfl, rfl, _, fills, s, rfl, .inr rfl, by show (2 : Nat) ≤ sizeLine; decide, by rfl, sh_opt2 _ _, ?_⟩
    cases e1 : fg cuts s with
    | none => exact hK _ ⟨acc, _, _, by rw [e]; simp only [meetF, e1], by omega, rfl⟩
    | some i =>
      cases e2 : fg fills s with
      | none => exact hK _ ⟨acc, _, _, by rw [e]; simp only [meetF, e1, e2], by omega, rfl⟩
      | some j =>
        have em : meetF cuts fills (s :: r) acc = if (i, j) ∈ acc then meetF cuts fills r acc else meetF cuts fills r (acc ++ [(i, j)]) := by
          show (match fg cuts s, fg fills s with
            | some i, some j => if (i, j) ∈ acc then meetF cuts fills r acc else meetF cuts fills r (acc ++ [(i, j)])
            | _, _ => meetF cuts fills r acc) = _
          rw [e1, e2]
        refine ⟨sh_pr (i, j), sh_pairs acc, ifB (fun h => ?_) (fun h => ?_)⟩
        · have h : (!(mesD acc).any fun z => z.eqv (meD (i, j))) = true := h
          rw [any_pairs] at h
          have h : (i, j) ∉ acc := by simpa using h
          refine ⟨mesD acc, rfl, small1000 (by rw [mesD_len]; omega), ?_⟩
          refine hK _ ⟨acc ++ [(i, j)], some (.val (.int s)), some (.val (meD (i, j))), by rw [e, em, if_neg h], by simp; omega, ?_⟩
          unfold mesD
          rw [List.map_append]
          rfl
        · have h : (!(mesD acc).any fun z => z.eqv (meD (i, j))) = false := h
          rw [any_pairs] at h
          have h : (i, j) ∈ acc := by simpa using h
          exact hK _ ⟨acc, _, _, by rw [e, em, if_pos h], by omega, rfl⟩
  · obtain ⟨acc, w3, w4, e, hacc, rfl⟩ := hI
    have e : meetF cuts fills S [] = acc := e
    rw [e] at hC
    exact hC p
theorem rd_meetingsLT (cuts fills : List Int) (C : Cell → Prop) (h1 : cuts.length ≤ 400) (h2 : fills.length ≤ 400) (hC : ∀ p, C (.own p (mesD (meetL cuts fills)))) : T_meetings g_first_gentle (EA C) (startA N_meetings [.lst (dI cuts), .tup (dI fills)]) := by
  refine ⟨by show (0 : Nat) ≤ sizeLine; decide, fun p => ?_⟩
  refine ⟨Nat.le_trans (show (dI cuts ++ (dI fills ++ [])).length ≤ 1000 by rw [List.append_nil, List.length_append, ints_len, ints_len]; omega) (by decide), cuts ++ fills, by rw [List.append_nil]; unfold dI; rw [List.map_append], fun S hp hs => ?_⟩
  have eS : S = sortD (cuts ++ fills) := desc_unique (hp.trans (sortD_perm _).symm) hs (sortD_pw _)
  have hC : ∀ p, C (.own p (mesD (meetF cuts fills S []))) := by rw [eS]; exact hC
  have hl : S.length ≤ 800 := by rw [hp.length_eq, List.length_append]; omega
  refine fr_mp S (fun x => .int x) (fun r ρ => ∃ acc w3 w4, meetF cuts fills S [] = meetF cuts fills r acc ∧ acc.length + r.length ≤ S.length ∧ ρ = [some (.val (.lst (dI cuts))), some (.val (.tup (dI fills))), some (.own p (mesD acc)), w3, w4]) rfl ⟨[], _, _, rfl, by simp, rfl⟩ (fun s r ρ K hI hK => ?_) (fun ρ hI => ?_)
  · obtain ⟨acc, w3, w4, e, hacc, rfl⟩ := hI
    have hacc : acc.length + (r.length + 1) ≤ S.length := hacc
    refine ⟨rfl, _, cuts, s, rfl, .inr rfl, rfl, _, fills, s, rfl, .inl rfl, by show (2 : Nat) ≤ sizeLine; decide, by rfl, sh_opt2 _ _, ?_⟩
    cases e1 : fg cuts s with
    | none => exact hK _ ⟨acc, _, _, by rw [e]; simp only [meetF, e1], by omega, rfl⟩
    | some i =>
      cases e2 : fg fills s with
      | none => exact hK _ ⟨acc, _, _, by rw [e]; simp only [meetF, e1, e2], by omega, rfl⟩
      | some j =>
        have em : meetF cuts fills (s :: r) acc = if (i, j) ∈ acc then meetF cuts fills r acc else meetF cuts fills r (acc ++ [(i, j)]) := by
          show (match fg cuts s, fg fills s with
            | some i, some j => if (i, j) ∈ acc then meetF cuts fills r acc else meetF cuts fills r (acc ++ [(i, j)])
            | _, _ => meetF cuts fills r acc) = _
          rw [e1, e2]
        refine ⟨sh_pr (i, j), sh_pairs acc, ifB (fun h => ?_) (fun h => ?_)⟩
        · have h : (!(mesD acc).any fun z => z.eqv (meD (i, j))) = true := h
          rw [any_pairs] at h
          have h : (i, j) ∉ acc := by simpa using h
          refine ⟨mesD acc, rfl, small1000 (by rw [mesD_len]; omega), ?_⟩
          refine hK _ ⟨acc ++ [(i, j)], some (.val (.int s)), some (.val (meD (i, j))), by rw [e, em, if_neg h], by simp; omega, ?_⟩
          unfold mesD
          rw [List.map_append]
          rfl
        · have h : (!(mesD acc).any fun z => z.eqv (meD (i, j))) = false := h
          rw [any_pairs] at h
          have h : (i, j) ∈ acc := by simpa using h
          exact hK _ ⟨acc, _, _, by rw [e, em, if_pos h], by omega, rfl⟩
  · obtain ⟨acc, w3, w4, e, hacc, rfl⟩ := hI
    have e : meetF cuts fills S [] = acc := e
    rw [e] at hC
    exact hC p
theorem rd_meetingsTL (cuts fills : List Int) (C : Cell → Prop) (h1 : cuts.length ≤ 400) (h2 : fills.length ≤ 400) (hC : ∀ p, C (.own p (mesD (meetL cuts fills)))) : T_meetings g_first_gentle (EA C) (startA N_meetings [.tup (dI cuts), .lst (dI fills)]) := by
  refine ⟨by show (0 : Nat) ≤ sizeLine; decide, fun p => ?_⟩
  refine ⟨Nat.le_trans (show (dI cuts ++ (dI fills ++ [])).length ≤ 1000 by rw [List.append_nil, List.length_append, ints_len, ints_len]; omega) (by decide), cuts ++ fills, by rw [List.append_nil]; unfold dI; rw [List.map_append], fun S hp hs => ?_⟩
  have eS : S = sortD (cuts ++ fills) := desc_unique (hp.trans (sortD_perm _).symm) hs (sortD_pw _)
  have hC : ∀ p, C (.own p (mesD (meetF cuts fills S []))) := by rw [eS]; exact hC
  have hl : S.length ≤ 800 := by rw [hp.length_eq, List.length_append]; omega
  refine fr_mp S (fun x => .int x) (fun r ρ => ∃ acc w3 w4, meetF cuts fills S [] = meetF cuts fills r acc ∧ acc.length + r.length ≤ S.length ∧ ρ = [some (.val (.tup (dI cuts))), some (.val (.lst (dI fills))), some (.own p (mesD acc)), w3, w4]) rfl ⟨[], _, _, rfl, by simp, rfl⟩ (fun s r ρ K hI hK => ?_) (fun ρ hI => ?_)
  · obtain ⟨acc, w3, w4, e, hacc, rfl⟩ := hI
    have hacc : acc.length + (r.length + 1) ≤ S.length := hacc
    refine ⟨rfl, _, cuts, s, rfl, .inl rfl, rfl, _, fills, s, rfl, .inr rfl, by show (2 : Nat) ≤ sizeLine; decide, by rfl, sh_opt2 _ _, ?_⟩
    cases e1 : fg cuts s with
    | none => exact hK _ ⟨acc, _, _, by rw [e]; simp only [meetF, e1], by omega, rfl⟩
    | some i =>
      cases e2 : fg fills s with
      | none => exact hK _ ⟨acc, _, _, by rw [e]; simp only [meetF, e1, e2], by omega, rfl⟩
      | some j =>
        have em : meetF cuts fills (s :: r) acc = if (i, j) ∈ acc then meetF cuts fills r acc else meetF cuts fills r (acc ++ [(i, j)]) := by
          show (match fg cuts s, fg fills s with
            | some i, some j => if (i, j) ∈ acc then meetF cuts fills r acc else meetF cuts fills r (acc ++ [(i, j)])
            | _, _ => meetF cuts fills r acc) = _
          rw [e1, e2]
        refine ⟨sh_pr (i, j), sh_pairs acc, ifB (fun h => ?_) (fun h => ?_)⟩
        · have h : (!(mesD acc).any fun z => z.eqv (meD (i, j))) = true := h
          rw [any_pairs] at h
          have h : (i, j) ∉ acc := by simpa using h
          refine ⟨mesD acc, rfl, small1000 (by rw [mesD_len]; omega), ?_⟩
          refine hK _ ⟨acc ++ [(i, j)], some (.val (.int s)), some (.val (meD (i, j))), by rw [e, em, if_neg h], by simp; omega, ?_⟩
          unfold mesD
          rw [List.map_append]
          rfl
        · have h : (!(mesD acc).any fun z => z.eqv (meD (i, j))) = false := h
          rw [any_pairs] at h
          have h : (i, j) ∈ acc := by simpa using h
          exact hK _ ⟨acc, _, _, by rw [e, em, if_pos h], by omega, rfl⟩
  · obtain ⟨acc, w3, w4, e, hacc, rfl⟩ := hI
    have e : meetF cuts fills S [] = acc := e
    rw [e] at hC
    exact hC p
theorem rd_meetingsTT (cuts fills : List Int) (C : Cell → Prop) (h1 : cuts.length ≤ 400) (h2 : fills.length ≤ 400) (hC : ∀ p, C (.own p (mesD (meetL cuts fills)))) : T_meetings g_first_gentle (EA C) (startA N_meetings [.tup (dI cuts), .tup (dI fills)]) := by
  refine ⟨by show (0 : Nat) ≤ sizeLine; decide, fun p => ?_⟩
  refine ⟨Nat.le_trans (show (dI cuts ++ (dI fills ++ [])).length ≤ 1000 by rw [List.append_nil, List.length_append, ints_len, ints_len]; omega) (by decide), cuts ++ fills, by rw [List.append_nil]; unfold dI; rw [List.map_append], fun S hp hs => ?_⟩
  have eS : S = sortD (cuts ++ fills) := desc_unique (hp.trans (sortD_perm _).symm) hs (sortD_pw _)
  have hC : ∀ p, C (.own p (mesD (meetF cuts fills S []))) := by rw [eS]; exact hC
  have hl : S.length ≤ 800 := by rw [hp.length_eq, List.length_append]; omega
  refine fr_mp S (fun x => .int x) (fun r ρ => ∃ acc w3 w4, meetF cuts fills S [] = meetF cuts fills r acc ∧ acc.length + r.length ≤ S.length ∧ ρ = [some (.val (.tup (dI cuts))), some (.val (.tup (dI fills))), some (.own p (mesD acc)), w3, w4]) rfl ⟨[], _, _, rfl, by simp, rfl⟩ (fun s r ρ K hI hK => ?_) (fun ρ hI => ?_)
  · obtain ⟨acc, w3, w4, e, hacc, rfl⟩ := hI
    have hacc : acc.length + (r.length + 1) ≤ S.length := hacc
    refine ⟨rfl, _, cuts, s, rfl, .inl rfl, rfl, _, fills, s, rfl, .inl rfl, by show (2 : Nat) ≤ sizeLine; decide, by rfl, sh_opt2 _ _, ?_⟩
    cases e1 : fg cuts s with
    | none => exact hK _ ⟨acc, _, _, by rw [e]; simp only [meetF, e1], by omega, rfl⟩
    | some i =>
      cases e2 : fg fills s with
      | none => exact hK _ ⟨acc, _, _, by rw [e]; simp only [meetF, e1, e2], by omega, rfl⟩
      | some j =>
        have em : meetF cuts fills (s :: r) acc = if (i, j) ∈ acc then meetF cuts fills r acc else meetF cuts fills r (acc ++ [(i, j)]) := by
          show (match fg cuts s, fg fills s with
            | some i, some j => if (i, j) ∈ acc then meetF cuts fills r acc else meetF cuts fills r (acc ++ [(i, j)])
            | _, _ => meetF cuts fills r acc) = _
          rw [e1, e2]
        refine ⟨sh_pr (i, j), sh_pairs acc, ifB (fun h => ?_) (fun h => ?_)⟩
        · have h : (!(mesD acc).any fun z => z.eqv (meD (i, j))) = true := h
          rw [any_pairs] at h
          have h : (i, j) ∉ acc := by simpa using h
          refine ⟨mesD acc, rfl, small1000 (by rw [mesD_len]; omega), ?_⟩
          refine hK _ ⟨acc ++ [(i, j)], some (.val (.int s)), some (.val (meD (i, j))), by rw [e, em, if_neg h], by simp; omega, ?_⟩
          unfold mesD
          rw [List.map_append]
          rfl
        · have h : (!(mesD acc).any fun z => z.eqv (meD (i, j))) = false := h
          rw [any_pairs] at h
          have h : (i, j) ∈ acc := by simpa using h
          exact hK _ ⟨acc, _, _, by rw [e, em, if_pos h], by omega, rfl⟩
  · obtain ⟨acc, w3, w4, e, hacc, rfl⟩ := hI
    have e : meetF cuts fills S [] = acc := e
    rw [e] at hC
    exact hC p
theorem rd_meetings : ∀ ds C, ds.length = 2 → g_meetings ds C → T_meetings g_first_gentle (EA C) (startA N_meetings ds) := by
  rintro ds C - ⟨d, cuts, e, fills, rfl, hd, he, h1, h2, hC⟩
  rcases hd with rfl | rfl <;> rcases he with rfl | rfl
  · exact rd_meetingsTT cuts fills C h1 h2 hC
  · exact rd_meetingsTL cuts fills C h1 h2 hC
  · exact rd_meetingsLT cuts fills C h1 h2 hC
  · exact rd_meetingsLL cuts fills C h1 h2 hC
def g_both_words : FA := fun ds C => ∃ q, ds = [meD q] ∧ C (.val (.tup [wordD (true, q), wordD (false, q)]))
theorem rd_both_words : ∀ ds C, ds.length = 1 → g_both_words ds C → T_both_words (EA C) (startA N_both_words ds) := by
  rintro ds C - ⟨q, rfl, hC⟩
  exact ⟨rfl, rfl, by show (3 : Nat) ≤ sizeLine; decide, by show (3 : Nat) ≤ sizeLine; decide, by show (2 : Nat) ≤ sizeLine; decide, hC⟩
end Pl
namespace Pl
open PySem PySem.Spec PyProof.Rows L2
def almD (ws : List Wd) : D := .lst (windsD ws)
def coresF (cuts fills : List Int) : List (List Wd) := (firstsL cuts fills).map fun o => coreL (alm cuts fills o)
theorem mem_coresF {cuts fills : List Int} {c : List Wd} : c ∈ coresF cuts fills ↔ ∃ o, ordB cuts fills o ∧ coreL (alm cuts fills o) = c := by
  unfold coresF
  rw [List.mem_map]
  constructor
  · rintro ⟨o, ho, rfl⟩
    exact ⟨o, firsts_ord ho, rfl⟩
  · rintro ⟨o, ho, rfl⟩
    obtain ⟨p, hp, e, _⟩ := cover ho
    exact ⟨p, hp, e⟩
def coresS (cuts fills : List Int) : List (List Wd) := (coresF cuts fills).mergeSort fun a b => dLe (almD a) (almD b)
theorem coresS_perm (cuts fills : List Int) : (coresS cuts fills).Perm (coresF cuts fills) := List.mergeSort_perm _ _
theorem mem_coresS {cuts fills : List Int} {c : List Wd} : c ∈ coresS cuts fills ↔ ∃ o, ordB cuts fills o ∧ coreL (alm cuts fills o) = c := by rw [(coresS_perm cuts fills).mem_iff, mem_coresF]
abbrev txS (o : List Bool) : D := .str (txt o)
theorem alm_len {cuts fills : List Int} {o : List Bool} (h : ordB cuts fills o) : (alm cuts fills o).length = cuts.length + fills.length := by
  rw [almL_len, ← cT_cF, h.1, h.2]
def endsIn (l cuts fills : List Int) (r : List Int) : Prop := ∃ o, ordB cuts fills o ∧ stL l cuts fills o = r
theorem stL_core {l cuts fills : List Int} (hc : Pos0 cuts) (hf : Pos0 fills) {o p : List Bool} (h : coreL (alm cuts fills o) = coreL (alm cuts fills p)) : stL l cuts fills o = stL l cuts fills p :=
  core_steps (almL_nonneg hc hf o 0 0) (almL_nonneg hc hf p 0 0) h l
theorem firsts_ends {l cuts fills : List Int} (hc : Pos0 cuts) (hf : Pos0 fills) {r : List Int} : r ∈ (firstsL cuts fills).map (stL l cuts fills) ↔ endsIn l cuts fills r := by
  rw [List.mem_map]
  constructor
  · rintro ⟨o, ho, rfl⟩
    exact ⟨o, firsts_ord ho, rfl⟩
  · rintro ⟨o, ho, rfl⟩
    obtain ⟨p, hp, e, _⟩ := cover ho
    exact ⟨p, hp, stL_core hc hf e⟩
end Pl
namespace Pl
open PySem PySem.Spec PyProof.Rows L2
theorem find_first {α : Type} {R : α → α → Prop} {p : α → Bool} {a : α} : ∀ {l : List α}, l.Pairwise R → l.find? p = some a → ∀ x ∈ l, p x = true → x = a ∨ R a x
  | [], _, h => by cases h
  | y :: l, hp, h => fun x hx px => by
    obtain ⟨h1, h2⟩ := List.pairwise_cons.mp hp
    rw [List.find?_cons] at h
    cases q : p y with
    | true =>
      rw [q] at h
      cases h
      rcases List.mem_cons.mp hx with rfl | hx
      · exact .inl rfl
      · exact .inr (h1 x hx)
    | false =>
      rw [q] at h
      rcases List.mem_cons.mp hx with rfl | hx
      · rw [q] at px; cases px
      · exact find_first h2 h x hx px
end Pl
namespace Pl
open PySem PySem.Spec PyProof.Rows L2
theorem sh_cfT : (D.tup [D.str "cut", D.str "fill"]).sh := by unfold D.sh; decide +kernel
def g_is_windS : FA := fun ds C => ∃ w : Wd, ds = [windD w.1 w.2] ∧ 0 ≤ w.2 ∧ C (.val (.bl true))
theorem rd_is_windS : ∀ ds C, ds.length = 1 → g_is_windS ds C → T_is_wind g_is_number (EA C) (startA N_is_wind ds) := by
  rintro ds C - ⟨⟨c, s⟩, rfl, h0, hC⟩
  have h0 : 0 ≤ s := h0
  refine ⟨rfl, rfl, ?_⟩
  refine ⟨_, atI_nat (j := 0) rfl, by show (2 : Nat) ≤ sizeLine; decide, sh_word c, sh_cfT, ?_⟩
  have e : ([D.str "cut", D.str "fill"].any fun z => z.eqv (.str (wordS c))) = true := by cases c <;> decide +kernel
  rw [e]
  refine ⟨_, atI_nat (j := 1) rfl, rfl, _, rfl, ?_⟩
  refine ⟨_, atI_nat (j := 1) rfl, ?_⟩
  show C (.val (.bl (decide (0 ≤ s))))
  rw [decide_eq_true h0]
  exact hC
def g_is_almanacS : FA := fun ds C => ∃ ws : List Wd, ds = [almD ws] ∧ (∀ w ∈ ws, 0 ≤ w.2) ∧ ws.length ≤ 900 ∧ C (.val (.bl true))
theorem rd_is_almanacS : ∀ ds C, ds.length = 1 → g_is_almanacS ds C → T_is_almanac g_is_windS (EA C) (startA N_is_almanac ds) := by
  rintro ds C - ⟨ws, rfl, h0, hl, hC⟩
  refine lc_mp ws (fun w => windD w.1 w.2) (fun _ => .bl true) rfl (fun w hw K hK => ⟨rfl, w, rfl, h0 w hw, hK _ rfl⟩) (by omega) ?_
  refine ⟨ws.map fun _ => true, by rw [List.map_map]; rfl, ?_⟩
  have e : (ws.map fun _ => true).all id = true := by simp
  rw [e]
  exact hC
def g_is_coreS : FA := fun ds C => ∃ ws : List Wd, ds = [almD ws] ∧ (∀ w ∈ ws, 0 ≤ w.2) ∧ ws.length ≤ 900 ∧ C (.val (.bl (decide (coreL ws = ws))))
theorem rd_is_coreS : ∀ ds C, ds.length = 1 → g_is_coreS ds C → T_is_core g_is_almanacS g_core (EA C) (startA N_is_core ds) := by
  rintro ds C - ⟨ws, rfl, h0, hl, hC⟩
  refine ⟨rfl, ws, rfl, h0, hl, rfl, _, ws, rfl, AmW.lst ws, hl, fun p => ⟨sh_winds _, sh_winds _, ?_⟩⟩
  have e : (D.lst (windsD (coreL ws))).eqv (almD ws) = decide (coreL ws = ws) := eqv_winds _ _
  show C (.val (.bl ((D.lst (windsD (coreL ws))).eqv (almD ws))))
  rw [e]
  exact hC
def wfL (cuts fills : List Int) (c : List Wd) : List Wo := (meetL cuts fills).map fun q => (decide (fs c (max (cuts.getD q.1 0) (fills.getD q.2 0)) = some true), q)
theorem fg_top {l : List Int} {s t : Int} {i : Nat} (h : fg l s = some i) (h1 : l.getD i 0 ≤ t) (h2 : t ≤ s) : fg l t = some i := by
  obtain ⟨a1, a2, a3⟩ := fg_some h
  cases e : fg l t with
  | none =>
    have : fv l t = none := by rw [fv_fg, e]; rfl
    have := fv_none.mp this (l.getD i 0) (by rw [List.getD_eq_getElem?_getD, List.getElem?_eq_getElem a1]; exact List.getElem_mem a1)
    omega
  | some j =>
    obtain ⟨b1, b2, b3⟩ := fg_some e
    have le := fg_mono h2 h e
    congr 1
    refine Nat.le_antisymm (Nat.not_lt.mp fun q => ?_) le
    have := b3 i q
    omega
theorem wf_row {cuts fills : List Int} {o : List Bool} {c : List Wd} (h : ordB cuts fills o) (hc : c = coreL (alm cuts fills o)) : wfL cuts fills c = rowO cuts fills o := by
  unfold wfL rowO
  refine List.map_congr_left fun q hq => ?_
  obtain ⟨x, h1, h2⟩ := mem_meetL.mp hq
  obtain ⟨a1, a2, _⟩ := fg_some h1
  obtain ⟨b1, b2, _⟩ := fg_some h2
  have e1 : fg cuts (max (cuts.getD q.1 0) (fills.getD q.2 0)) = some q.1 := fg_top h1 (by omega) (by omega)
  have e2 : fg fills (max (cuts.getD q.1 0) (fills.getD q.2 0)) = some q.2 := fg_top h2 (by omega) (by omega)
  rw [hc, fs_core, fs_alm0 h, e1, e2]
  show (decide (some (sideO o (q.1, q.2)) = some true), q) = (sideO o q, q)
  cases sideO o (q.1, q.2) <;> rfl
def g_words_for : FA := fun ds C => ∃ d cuts e fills a c, ds = [d, e, a] ∧ Sq d cuts ∧ Sq e fills ∧ cuts.length ≤ 400 ∧ fills.length ≤ 400 ∧ AmW a c ∧ ∀ p, C (.own p (wordsD (wfL cuts fills c)))
theorem rd_words_for : ∀ ds C, ds.length = 3 → g_words_for ds C → T_words_for g_first_to_shift g_meetings g_both_words (EA C) (startA N_words_for ds) := by
  rintro ds C - ⟨d, cuts, e, fills, a, c, rfl, hd, he, hc, hf, ha, hC⟩
  have ml : (meetL cuts fills).length ≤ 800 := by have := (meetL_rise cuts fills).2; omega
  refine ⟨by show (0 : Nat) ≤ sizeLine; decide, fun p => ⟨rfl, d, cuts, e, fills, rfl, hd, he, hc, hf, fun p2 => ?_⟩⟩
  refine fr_mp (meetL cuts fills) meD (fun r ρ => ∃ dn w4 w5 w6 w7, dn ++ r = meetL cuts fills ∧ ρ = [some (.val d), some (.val e), some (.val a), some (.own p (wordsD (dn.map fun q => (decide (fs c (max (cuts.getD q.1 0) (fills.getD q.2 0)) = some true), q)))), w4, w5, w6, w7]) rfl ⟨[], _, _, _, _, rfl, rfl⟩ (fun q r ρ K hI hK => ?_) (fun ρ hI => ?_)
  · obtain ⟨dn, w4, w5, w6, w7, ed, rfl⟩ := hI
    have hq : q ∈ meetL cuts fills := by rw [← ed]; simp
    obtain ⟨q1, q2⟩ := meetL_in hq
    have hdn : dn.length ≤ 800 := by
      have := congrArg List.length ed
      rw [List.length_append] at this
      omega
    refine ⟨rfl, q, rfl, rfl, rfl, ?_⟩
    have fin : ∀ (d' e' : D), d' = d → e' = e → pSeq (pSet 7 (pVal (pCB fMax2 (pCons (pIxO 0 (pIxO 4 (pC (.int 0)))) (pCons (pIxO 1 (pIxO 4 (pC (.int 1)))) pNil))))) (pAppend 3 (pIf (pTest (pOp fEq (pFrz (pCallA 2 g_first_to_shift (pCons (pVar 2) (pCons (pVar 7) pNil)))) (pC (.str "cut")))) (pVar 5) (pVar 6))) { nx := K, rt := (EA C).rt, bk := pRet (pMove 3) (EA C), ct := K } [some (.val d'), some (.val e'), some (.val a), some (.own p (wordsD (dn.map fun q => (decide (fs c (max (cuts.getD q.1 0) (fills.getD q.2 0)) = some true), q)))), some (.val (meD q)), some (.val (wordD (true, q))), some (.val (wordD (false, q))), w7] := by
      intro d' e' hd' he'
      have tail : pAppend 3 (pIf (pTest (pOp fEq (pFrz (pCallA 2 g_first_to_shift (pCons (pVar 2) (pCons (pVar 7) pNil)))) (pC (.str "cut")))) (pVar 5) (pVar 6)) { nx := K, rt := (EA C).rt, bk := pRet (pMove 3) (EA C), ct := K } [some (.val d'), some (.val e'), some (.val a), some (.own p (wordsD (dn.map fun q => (decide (fs c (max (cuts.getD q.1 0) (fills.getD q.2 0)) = some true), q)))), some (.val (meD q)), some (.val (wordD (true, q))), some (.val (wordD (false, q))), some (.val (.int (max (cuts.getD q.1 0) (fills.getD q.2 0))))] := by
        refine ⟨rfl, a, c, _, rfl, ha, sh_optW _, sh_cut, ?_⟩
        have ev : (optW (fs c (max (cuts.getD q.1 0) (fills.getD q.2 0)))).eqv (.str "cut") = decide (fs c (max (cuts.getD q.1 0) (fills.getD q.2 0)) = some true) := eqv_optW _ (some true)
        have step : ∀ b, decide (fs c (max (cuts.getD q.1 0) (fills.getD q.2 0)) = some true) = b → K [some (.val d'), some (.val e'), some (.val a), some (.own p (wordsD (dn.map fun q => (decide (fs c (max (cuts.getD q.1 0) (fills.getD q.2 0)) = some true), q)) ++ [wordD (b, q)])), some (.val (meD q)), some (.val (wordD (true, q))), some (.val (wordD (false, q))), some (.val (.int (max (cuts.getD q.1 0) (fills.getD q.2 0))))] := fun b hb => by
          subst hd' he'
          refine hK _ ⟨dn ++ [q], some (.val (meD q)), some (.val (wordD (true, q))), some (.val (wordD (false, q))), some (.val (.int (max (cuts.getD q.1 0) (fills.getD q.2 0)))), by rw [List.append_assoc]; exact ed, ?_⟩
          rw [List.map_append, ← hb]
          unfold wordsD
          rw [List.map_append]
          rfl
        have sm : (wordsD (dn.map fun q => (decide (fs c (max (cuts.getD q.1 0) (fills.getD q.2 0)) = some true), q))).length < sizeLine := by
          rw [wordsD_len, List.length_map]
          exact small1000 (by omega)
        show if (optW (fs c (max (cuts.getD q.1 0) (fills.getD q.2 0)))).eqv (.str "cut") = true then _ else _
        rw [ev]
        refine ifB (fun hb => ⟨_, rfl, sm, step true hb⟩) (fun hb => ⟨_, rfl, sm, step false hb⟩)
      subst hd' he'
      rcases hd with rfl | rfl <;> rcases he with rfl | rfl
      all_goals exact ⟨_, atI_nat (j := 0) rfl, _, atI_ints' q1, _, atI_nat (j := 1) rfl, _, atI_ints' q2, tail⟩
    exact fin d e rfl rfl
  · obtain ⟨dn, w4, w5, w6, w7, ed, rfl⟩ := hI
    rw [List.append_nil] at ed
    have := hC p
    unfold wfL at this
    rw [← ed] at this
    exact this
def g_order_for : FA := fun ds C => ∃ d cuts e fills a o c, ds = [d, e, a] ∧ Sq d cuts ∧ Sq e fills ∧ cuts.length ≤ 400 ∧ fills.length ≤ 400 ∧ Pos0 cuts ∧ Pos0 fills ∧ AmW a c ∧ ordB cuts fills o ∧ c = coreL (alm cuts fills o) ∧ C (.val (txS (firstO cuts fills (rowO cuts fills o))))
theorem tup_amW {P : PEnds} {tail : TSp} {a : D} {c : List Wd} {r0 r1 : Option Cell} (ha : AmW a c) (hl : c.length ≤ 900) (h : tail P [r0, r1, some (.val a), none, some (.val (almD c)), none, none]) : pSeq (pSet 4 (pVal (pLc (jSeq (pVar 2)) (hName 3) pYes (pCB fTup (pCons (pVar 3) pNil)) [3]))) tail P [r0, r1, some (.val a), none, none, none, none] := by
  obtain ⟨ps, hps, hw, rfl⟩ := ha
  have hl : ps.length ≤ 900 := by rw [List.length_map] at hl; exact hl
  have key : lcW [3] (hName 3) pYes (pCB fTup (pCons (pVar 3) pNil)) (fun acc ρ2 => tail P (ρ2.set 4 (some (.val (.lst acc))))) (ps.map Prod.fst) [] [r0, r1, some (.val a), none, none, none, none] := by
    refine lc_mp ps Prod.fst (fun p => windD p.2.1 p.2.2) rfl (fun p hp K hK => ?_) (by omega) ?_
    · rcases hw p hp with e | e
      · rw [e]; exact hK _ rfl
      · rw [e]; exact hK _ rfl
    · have e : ps.map (fun p => windD p.2.1 p.2.2) = windsD (ps.map Prod.snd) := by unfold windsD; rw [List.map_map]; rfl
      rw [e]
      exact h
  rcases hps with rfl | rfl
  · exact key
  · exact key
theorem rd_order_for : ∀ ds C, ds.length = 3 → g_order_for ds C → T_order_for g_is_coreS g_alike g_almanac_of g_first_clashG (g_order_atG g_ways_onA) g_words_for (EA C) (startA N_order_for ds) := by
  rintro ds C - ⟨d, cuts, e, fills, a, o, c, rfl, hd, he, hc, hf, pc, pf, ha, ho, hco, hC⟩
  have hal := alm_len ho
  have hcl : c.length ≤ 800 := by
    have := coreL_len (alm cuts fills o)
    rw [← hco] at this
    omega
  have hr := row_in ho
  obtain ⟨hn, hb⟩ := rows_noclash hr
  have hrl := rows_len hr
  have e1 : wfL cuts fills c = rowO cuts fills o := wf_row ho hco
  have cc : coreL c = c := by rw [hco]; exact core_core _
  have cpos : ∀ w ∈ c, 0 ≤ w.2 := fun w hw => by
    rw [hco] at hw
    exact almL_nonneg pc pf o 0 0 w (coreL_sub hw)
  refine tup_amW ha (by omega) ?_
  refine ⟨rfl, d, cuts, e, fills, _, c, rfl, hd, he, hc, hf, AmW.lst c, fun p => ?_⟩
  rw [e1]
  refine ⟨rfl, c, rfl, cpos, by omega, ?_⟩
  rw [decide_eq_true cc]
  have fo := (first_row hr).2
  have fr := (first_row hr).1
  have fl := alm_len fo
  have hol := cT_cF (firstO cuts fills (rowO cuts fills o))
  have f1 := fo.1
  have f2 := fo.2
  refine ⟨rfl, false, .lst (wordsD (rowO cuts fills o)), rowO cuts fills o, rfl, .inl rfl, by omega, fun i j hij => absurd hn.pair hij.not, fun _ => ?_⟩
  refine ⟨rfl, order_listed (r := false) (j := 0) hd he (.inl rfl) hn (by omega) hc hf hb (first_at hb hn) ?_⟩
  refine ⟨rfl, d, cuts, e, fills, _, rfl, hd, he, by omega, by omega, by omega, fun p2 => ?_⟩
  refine ⟨rfl, _, alm cuts fills (firstO cuts fills (rowO cuts fills o)), _, c, rfl, AmW.lst _, AmW.lst c, by omega, by omega, ?_⟩
  have ec : coreL (alm cuts fills (firstO cuts fills (rowO cuts fills o))) = coreL c := by
    rw [cc, hco]
    exact (core_row fo ho).mpr fr
  rw [decide_eq_true ec]
  exact hC
end Pl
namespace Pl
open PySem PySem.Spec PyProof.Rows L2
def Calm0 (A : Around) : Prop := A.guards = some []
structure FnG (P : Program) (w : World) (K : PySem.W.Frag) (mg : Str → Option Value) (bs : Heap) (n : Nat) (f : Addr) (fd : FuncData) (ps : List Str) (sp : Sp) : Prop where
  len : ∀ vs H Q E, sp vs H Q E → vs.length = ps.length
  run : ∀ (A : Around) (out : List Env) (s : Shared) (H : Hp) (ar : Args) (us : List Value) (vs : List V) (Q : VK) (E : XK), Calm0 A → Room n A → Env0 P w K mg bs A out s H → BindsTo s fd ar (ps.zip us) → Vals vs us → sp vs H Q E →
    codeAny (model P w) A (.call (.ref f) ar) (CR CX0 out P w H s Q E) s
theorem FnG.mono {P : Program} {w : World} {K : PySem.W.Frag} {mg : Str → Option Value} {bs : Heap} {m n : Nat} {f : Addr} {fd : FuncData} {ps : List Str} {sp : Sp} (F : FnG P w K mg bs m f fd ps sp) (h : m ≤ n) : FnG P w K mg bs n f fd ps sp :=
  ⟨F.len, fun A out s H ar us vs Q E hc hr => F.run A out s H ar us vs Q E hc (hr.mono h)⟩
end Pl
namespace Pl
open PySem PySem.Spec PyProof.Rows L2
section
variable {P : Program} {w : World} {K : PySem.W.Frag} {mg mb : Str → Option Value} {H : Hp} {h : Heap} {a b : Addr} {vs : List Value}
structure Begin (P : Program) (w : World) (K : PySem.W.Frag) (H : Hp) (h : Heap) (a : Addr) : Prop where
  one : ∀ b, H b ≠ none → b = a
  own : H a ≠ none → K.lookup a = none
  ok : HOk P w H h
  only : Only H
theorem Begin.none (B : Begin P w K H h a) (ne : b ≠ a) : H b = .none := Classical.byContradiction fun z => ne (B.one b z)
theorem Begin.kin (B : Begin P w K H h a) (k : K.In h) : K.In (hidT h H) := fun b o e => by
  refine hidT_get (k b o e) (Classical.byContradiction fun z => ?_)
  have z2 := B.one b z
  subst z2
  rw [B.own z] at e
  cases e
theorem Begin.ns {o : Obj} {its : Array Value} {q : Nat} {m : Str → Option Value} (B : Begin P w K H h a) (e : h.get? a = some o) (d : o.data = .seq its q) (N : h.Ns b m) : (hidT h H).Ns b m := by
  obtain ⟨o2, es, ep, e2, d2, r⟩ := N
  refine ⟨o2, es, ep, hidT_get e2 (B.none fun z => ?_), d2, r⟩
  rw [z, e] at e2
  cases e2
  rw [d] at d2
  cases d2
theorem Begin.kept {s s' : Shared} {H' : Hp} (B : Begin P w K H s.heap a) (un : Un (frs []) [] H H' s.heap s'.heap) (ok' : HOk P w H' s'.heap) : OldK s.heap s'.heap := OldK.of_keep fun b o e => by
  rcases B.only b with z | ⟨o2, xs, z⟩
  · exact un.keep b o e z (fun m => by cases m) (by simp)
  · have e1 := (B.ok b _ z).1
    have e2 := (ok' b _ (un.frzs b o2 _ z)).1
    rw [e] at e1
    cases e1
    exact e2
end
end Pl
namespace Pl
open PySem PySem.Spec PyProof.Rows L2
structure Sh1 (n W : Nat) (d : PyData) : Prop where
  lay : d.canLay0 = true
  show' : d.showable = true
  short : d.leavesShort 13 = true
  depth : d.depth ≤ n
  weight : d.weight ≤ W
structure ShA (n W k : Nat) (xs : List PyData) : Prop where
  lay : PyData.canLayAll0 xs = true
  show' : PyData.showableAll xs = true
  short : PyData.leavesShortAll 13 xs = true
  depth : PyData.depthAll xs ≤ n
  weight : PyData.weightAll xs ≤ k * (W + 1)
theorem ShA.sh {n W m k : Nat} {xs : List PyData} (h : ShA n W k xs) (hk : k ≤ m) : Sh1 (n + 1) (m * (W + 1) + 41) (.list xs) ∧ Sh1 (n + 1) (m * (W + 1) + 41) (.tuple xs) := by
  have hw := h.weight
  have hm : k * (W + 1) ≤ m * (W + 1) := Nat.mul_le_mul_right _ hk
  refine ⟨⟨?_, ?_, ?_, ?_, ?_⟩, ⟨?_, ?_, ?_, ?_, ?_⟩⟩
  · rw [PyData.canLay0]; exact h.lay
  · rw [PyData.showable]; exact h.show'
  · rw [PyData.leavesShort]; exact h.short
  · rw [PyData.depth]; exact Nat.succ_le_succ h.depth
  · rw [PyData.weight]; omega
  · rw [PyData.canLay0]; exact h.lay
  · rw [PyData.showable]; exact h.show'
  · rw [PyData.leavesShort]; exact h.short
  · rw [PyData.depth]; exact Nat.succ_le_succ h.depth
  · rw [PyData.weight]; omega
end Pl
namespace Pl
open PySem PySem.Spec PyProof.Rows L2
def As (k : Nat) (x : Str) : Prop := (∀ c ∈ x.cps.toList, c < 128) ∧ x.cps.size ≤ 33 + k
def Gd (k : Nat) : Nat → D → Prop
  | _, .non => True
  | _, .bl _ => True
  | _, .int i => i.natAbs ≤ 10 ^ 30 + k
  | _, .str x => As k x
  | n + 1, .lst xs => ∀ x ∈ xs, Gd k n x
  | n + 1, .tup xs => ∀ x ∈ xs, Gd k n x
  | _, _ => False
theorem As.up {k k' : Nat} {x : Str} (h : As k x) (hk : k ≤ k') : As k' x := ⟨h.1, by have := h.2; omega⟩
theorem Gd.up {k k' : Nat} (hk : k ≤ k') : ∀ {n n' : Nat} {d : D}, n ≤ n' → Gd k n d → Gd k' n' d
  | n, n', .non, _, _ => by cases n' <;> trivial
  | n, n', .bl _, _, _ => by cases n' <;> trivial
  | n, n', .int i, _, h => by
    have h : i.natAbs ≤ 10 ^ 30 + k := by cases n <;> exact h
    cases n' <;> exact (by show i.natAbs ≤ 10 ^ 30 + k'; omega)
  | n, n', .str x, _, h => by
    have h : As k x := by cases n <;> exact h
    cases n' <;> exact h.up hk
  | n + 1, n' + 1, .lst xs, hn, h => fun x hx => Gd.up hk (Nat.le_of_succ_le_succ hn) (h x hx)
  | n + 1, n' + 1, .tup xs, hn, h => fun x hx => Gd.up hk (Nat.le_of_succ_le_succ hn) (h x hx)
  | n + 1, 0, _, hn, _ => by omega
  | 0, _, .lst _, _, h => h.elim
  | 0, _, .tup _, _, h => h.elim
  | 0, _, .scr _, _, h => h.elim
  | _ + 1, _, .scr _, _, h => h.elim
  | 0, _, .adr _, _, h => h.elim
  | _ + 1, _, .adr _, _, h => h.elim
  | 0, _, .exc _ _, _, h => h.elim
  | _ + 1, _, .exc _ _, _, h => h.elim
structure Shq (n : Nat) (d : PyData) : Prop where
  lay : d.canLay0 = true
  show' : d.showable = true
  short : d.leavesShort 40 = true
  depth : d.depth ≤ n
structure ShqA (n : Nat) (xs : List PyData) : Prop where
  lay : PyData.canLayAll0 xs = true
  show' : PyData.showableAll xs = true
  short : PyData.leavesShortAll 40 xs = true
  depth : PyData.depthAll xs ≤ n
theorem shqA {n : Nat} : ∀ {xs : List D}, (∀ x ∈ xs, Shq n (toPy x)) → ShqA n (toPys xs)
  | [], _ => by rw [toPys]; exact ⟨rfl, rfl, rfl, Nat.zero_le _⟩
  | x :: xs, h => by
    have h1 := h x (by simp)
    have h2 := shqA (xs := xs) fun y hy => h y (by simp [hy])
    rw [toPys]
    refine ⟨?_, ?_, ?_, ?_⟩
    · rw [PyData.canLayAll0, h1.lay, h2.lay]; rfl
    · rw [PyData.showableAll, h1.show', h2.show']; rfl
    · rw [PyData.leavesShortAll, h1.short, h2.short]; rfl
    · rw [PyData.depthAll]; exact Nat.max_le.mpr ⟨h1.depth, h2.depth⟩
theorem ShqA.sh {n : Nat} {xs : List PyData} (h : ShqA n xs) : Shq (n + 1) (.list xs) ∧ Shq (n + 1) (.tuple xs) := by
  refine ⟨⟨?_, ?_, ?_, ?_⟩, ⟨?_, ?_, ?_, ?_⟩⟩
  · rw [PyData.canLay0]; exact h.lay
  · rw [PyData.showable]; exact h.show'
  · rw [PyData.leavesShort]; exact h.short
  · rw [PyData.depth]; exact Nat.succ_le_succ h.depth
  · rw [PyData.canLay0]; exact h.lay
  · rw [PyData.showable]; exact h.show'
  · rw [PyData.leavesShort]; exact h.short
  · rw [PyData.depth]; exact Nat.succ_le_succ h.depth
theorem gd_shq {k : Nat} (hk : k ≤ 1000) : ∀ (n : Nat) (d : D), Gd k n d → Shq n (toPy d)
  | n, .non, _ => by rw [toPy]; exact ⟨rfl, rfl, rfl, Nat.zero_le _⟩
  | n, .bl b, _ => by rw [toPy]; exact ⟨rfl, rfl, rfl, Nat.zero_le _⟩
  | n, .int i, h => by
    have h : i.natAbs ≤ 10 ^ 30 + k := by cases n <;> exact h
    have hl : i.natAbs.log2 < 1920 := by
      by_cases z : i.natAbs = 0
      · rw [z]; decide
      · exact Nat.lt_trans ((Nat.log2_lt z).mpr (show i.natAbs < 2 ^ 101 by omega)) (by decide)
    rw [toPy]
    refine ⟨rfl, ?_, ?_, Nat.zero_le _⟩
    · rw [PyData.showable]; exact decide_eq_true hl
    · rw [PyData.leavesShort]
      refine decide_eq_true ?_
      show (Str.ofString (toString i)).length ≤ 40
      rw [PyProof.Rows.ofString_len]
      exact Nat.le_trans (int_text_length_le10 (k := 31) (by decide) (by omega)) (by decide)
  | n, .str x, h => by
    have h : As k x := by cases n <;> exact h
    rw [toPy]
    refine ⟨?_, rfl, ?_, Nat.zero_le _⟩
    · rw [PyData.canLay0]
      unfold PyData.strOk
      rw [← Array.all_toList, List.all_eq_true]
      exact fun c q => decide_eq_true (by have := h.1 c q; omega)
    · rw [PyData.leavesShort, List.all_eq_true]
      exact fun c q => decide_eq_true (by have := h.1 c q; omega)
  | n + 1, .lst xs, h => by rw [toPy]; exact ((shqA fun x hx => gd_shq hk n x (h x hx)).sh).1
  | n + 1, .tup xs, h => by rw [toPy]; exact ((shqA fun x hx => gd_shq hk n x (h x hx)).sh).2
  | 0, .lst xs, h => h.elim
  | 0, .tup xs, h => h.elim
  | 0, .scr _, h => h.elim
  | _ + 1, .scr _, h => h.elim
  | 0, .adr _, h => h.elim
  | _ + 1, .adr _, h => h.elim
  | 0, .exc _ _, h => h.elim
  | _ + 1, .exc _ _, h => h.elim
theorem gd_sh {k n : Nat} (hk : k ≤ 1000) (hn : n ≤ 60) {d : D} (h : Gd k n d) : d.sh := by
  have := gd_shq hk n d h
  unfold D.sh SeqAt.shaped
  rw [this.lay, decide_eq_true (Nat.le_trans this.depth (by omega))]; rfl
end Pl
namespace Pl
open PySem PySem.Spec PyProof.Rows L2
theorem sh_tx {o : List Bool} (h : o.length ≤ 800) : (txS o).sh := by
  refine gd_sh (k := 900) (n := 0) (by decide) (by decide) ?_
  refine ⟨fun c hc => ?_, ?_⟩
  · have hc : c ∈ o.map sg := by simpa [txt] using hc
    obtain ⟨b, _, rfl⟩ := List.mem_map.mp hc
    cases b <;> decide
  · have := txt_len o
    unfold Str.length at this
    omega
structure Ends (l cuts fills : List Int) (rs : List (List Int)) : Prop where
  nd : rs.Nodup
  mem : ∀ r, r ∈ rs ↔ endsIn l cuts fills r
  pw : rs.Pairwise fun a b => dLe (tD a) (tD b) = true
theorem nodup_len {α : Type} [DecidableEq α] : ∀ {a b : List α}, a.Nodup → (∀ x ∈ a, x ∈ b) → a.length ≤ b.length
  | [], _, _, _ => Nat.zero_le _
  | x :: a, b, na, h => by
    obtain ⟨n1, n2⟩ := List.nodup_cons.mp na
    have ih := nodup_len (b := b.erase x) n2 fun y hy => (List.mem_erase_of_ne fun z => n1 (by rw [← z]; exact hy)).mpr (h y (List.mem_cons_of_mem _ hy))
    have hm := h x List.mem_cons_self
    rw [List.length_erase_of_mem hm] at ih
    have := List.length_pos_of_mem hm
    rw [List.length_cons]
    omega
theorem Ends.len {l cuts fills : List Int} {rs : List (List Int)} (E : Ends l cuts fills rs) (hc : Pos0 cuts) (hf : Pos0 fills) : rs.length ≤ (firstsL cuts fills).length := by
  have := nodup_len (b := (firstsL cuts fills).map (stL l cuts fills)) E.nd fun r hr => (firsts_ends hc hf).mpr ((E.mem r).mp hr)
  rw [List.length_map] at this
  exact this
def coreO (cuts fills : List Int) (c : List Wd) : List Bool := firstO cuts fills (wfL cuts fills c)
theorem coreO_of {cuts fills : List Int} {c : List Wd} (h : c ∈ coresS cuts fills) : ordB cuts fills (coreO cuts fills c) ∧ coreL (alm cuts fills (coreO cuts fills c)) = c ∧ ∀ o, ordB cuts fills o → coreL (alm cuts fills o) = c → coreO cuts fills c = o ∨ LtO (coreO cuts fills c) o := by
  obtain ⟨o, ho, hc⟩ := mem_coresS.mp h
  have e : coreO cuts fills c = firstO cuts fills (rowO cuts fills o) := by unfold coreO; rw [wf_row ho hc.symm]
  obtain ⟨f1, f2⟩ := first_row (row_in ho)
  rw [e]
  refine ⟨f2, ?_, fun p hp ep => ?_⟩
  · rw [(core_row f2 ho).mpr f1, hc]
  · have er : rowO cuts fills p = rowO cuts fills o := (core_row hp ho).mp (by rw [ep, hc])
    rw [← er]
    exact first_le hp
theorem order_for_core {cuts fills : List Int} {c : List Wd} (h : c ∈ coresS cuts fills) {d e a : D} {C : Cell → Prop} (hd : Sq d cuts) (he : Sq e fills) (hc : cuts.length ≤ 400) (hf : fills.length ≤ 400) (pc : Pos0 cuts) (pf : Pos0 fills) (ha : AmW a c) (hC : C (.val (txS (coreO cuts fills c)))) : g_order_for [d, e, a] C := by
  obtain ⟨o, ho, hco⟩ := mem_coresS.mp h
  refine ⟨d, cuts, e, fills, a, o, c, rfl, hd, he, hc, hf, pc, pf, ha, ho, hco.symm, ?_⟩
  have e : coreO cuts fills c = firstO cuts fills (rowO cuts fills o) := by unfold coreO; rw [wf_row ho hco.symm]
  rw [← e]
  exact hC
theorem core_nonneg {cuts fills : List Int} (pc : Pos0 cuts) (pf : Pos0 fills) {c : List Wd} (h : c ∈ coresS cuts fills) : (∀ w ∈ c, 0 ≤ w.2) ∧ c.length ≤ cuts.length + fills.length := by
  obtain ⟨o, ho, rfl⟩ := mem_coresS.mp h
  refine ⟨fun w hw => almL_nonneg pc pf o 0 0 w (coreL_sub hw), ?_⟩
  have := coreL_len (alm cuts fills o)
  rw [alm_len ho] at this
  exact this
end Pl
namespace Pl
open PySem PySem.Spec PyProof.Rows L2
def PosM (l : List Int) : Prop := ∀ x ∈ l, 0 ≤ x ∧ x < 1000000000
theorem PosM.snoc {l : List Int} {x : Int} (h : PosM l) (hx : 0 ≤ x ∧ x < 1000000000) : PosM (l ++ [x]) := fun y hy => by
  rcases List.mem_append.mp hy with hy | hy
  · exact h y hy
  · rw [List.mem_singleton.mp hy]; exact hx
theorem PosM.take {l : List Int} (h : PosM l) (n : Nat) : PosM (l.take n) := fun y hy => h y (List.mem_of_mem_take hy)
theorem PosM.pos {l : List Int} (h : PosM l) : Pos0 l := fun x hx => (h x hx).1
end Pl
namespace Pl
theorem ahead_app : ∀ (A B : List Bool) (k : Nat), aheadL k (A ++ B) = aheadL k A ++ aheadL (k + cT A) B
  | [], B, k => rfl
  | true :: A, B, k => by
    show aheadL (k + 1) (A ++ B) = aheadL (k + 1) A ++ aheadL (k + (cT A + 1)) B
    rw [ahead_app A B (k + 1), show k + 1 + cT A = k + (cT A + 1) by omega]
  | false :: A, B, k => by
    show k :: aheadL k (A ++ B) = (k :: aheadL k A) ++ aheadL (k + cT A) B
    rw [ahead_app A B k]; rfl
theorem ahead_cf (A B : List Bool) : aheadL 0 (A ++ true :: false :: B) = aheadL 0 A ++ (cT A + 1) :: aheadL (cT A + 1) B := by
  rw [ahead_app, Nat.zero_add]; rfl
theorem ahead_fc (A B : List Bool) : aheadL 0 (A ++ false :: true :: B) = aheadL 0 A ++ cT A :: aheadL (cT A + 1) B := by
  rw [ahead_app, Nat.zero_add]; rfl
theorem ct_swap (A B : List Bool) : cT (A ++ false :: true :: B) = cT (A ++ true :: false :: B) ∧ cF (A ++ false :: true :: B) = cF (A ++ true :: false :: B) := by
  rw [cT_append, cT_append, cF_append, cF_append]
  exact ⟨rfl, rfl⟩
theorem at_fill : ∀ (o : List Bool) (k f x : Nat), (aheadL k o)[f]? = some x → ∃ A B, o = A ++ false :: B ∧ cF A = f ∧ k + cT A = x
  | [], k, f, x, h => by simp [aheadL] at h
  | true :: o, k, f, x, h => by
    obtain ⟨A, B, h1, h2, h3⟩ := at_fill o (k + 1) f x h
    exact ⟨true :: A, B, by rw [h1]; rfl, h2, by show k + (cT A + 1) = x; omega⟩
  | false :: o, k, 0, x, h => ⟨[], o, rfl, rfl, by have h : some k = some x := h; exact Option.some.inj h⟩
  | false :: o, k, f + 1, x, h => by
    obtain ⟨A, B, h1, h2, h3⟩ := at_fill o k f x h
    exact ⟨false :: A, B, by rw [h1]; rfl, by show cF A + 1 = f + 1; omega, h3⟩
theorem at_fill_of (A B : List Bool) : (aheadL 0 (A ++ false :: B))[cF A]? = some (cT A) := by
  rw [ahead_app, Nat.zero_add]
  have h : (aheadL 0 A).length = cF A := aheadL_len A 0
  rw [List.getElem?_append_right (by omega), h, Nat.sub_self]
  rfl
section
variable {cuts fills : List Int} {ws : List Wo} {o : List Bool}
theorem Has.step (H : Has cuts fills o ws) (hn : o ≠ ordW 0 (loL fills.length ws) cuts.length) : ∃ A B, o = A ++ true :: false :: B ∧ Has cuts fills (A ++ false :: true :: B) ws := by
  have hne : aheadL 0 o ≠ loL fills.length ws := fun e => hn (by rw [← e]; exact H.ord.symm)
  have hl : (aheadL 0 o).length = fills.length := H.len
  have ex : ∃ f, ∃ x, (aheadL 0 o)[f]? = some x ∧ loN ws f < x ∧ ∀ g y, g < f → (aheadL 0 o)[g]? = some y → y = loN ws g := by
    refine Classical.byContradiction fun no => hne ?_
    have all : ∀ n f x, f < n → (aheadL 0 o)[f]? = some x → x = loN ws f := by
      intro n
      induction n with
      | zero => intro f x h; omega
      | succ n ih =>
        intro f x hf hx
        by_cases hfn : f < n
        · exact ih f x hfn hx
        · have hfe : f = n := by omega
          subst hfe
          refine Classical.byContradiction fun hx' => no ⟨f, x, hx, ?_, fun g y hg hy => ih g y hg hy⟩
          have := (H.btw hx).1
          omega
    refine List.ext_getElem? fun f => ?_
    by_cases hf : f < fills.length
    · have e1 : (aheadL 0 o)[f]? = some ((aheadL 0 o)[f]'(by omega)) := List.getElem?_eq_getElem _
      have e2 := all (f + 1) f _ (by omega) e1
      rw [e1, e2]
      unfold loL
      rw [List.getElem?_map, List.getElem?_eq_getElem (by rw [List.length_range']; exact hf), List.getElem_range']
      simp
    · rw [List.getElem?_eq_none (by omega), List.getElem?_eq_none (by unfold loL; rw [List.length_map, List.length_range']; omega)]
  obtain ⟨f, x, hx, hlt, hmin⟩ := ex
  obtain ⟨A, B, rfl, h2, h3⟩ := at_fill o 0 f x hx
  rw [Nat.zero_add] at h3
  have tail : ∃ A', A = A' ++ [true] := by
    rcases List.eq_nil_or_concat A with rfl | ⟨A', b, eA⟩
    · have : (0 : Nat) = x := h3
      omega
    · rw [List.concat_eq_append] at eA
      subst eA
      cases b with
      | true => exact ⟨A', rfl⟩
      | false =>
        exfalso
        have e1 : cT (A' ++ [false]) = cT A' := by rw [cT_append]; rfl
        have e2 : cF (A' ++ [false]) = cF A' + 1 := by rw [cF_append]; rfl
        have e3 : (aheadL 0 (A' ++ [false] ++ false :: B))[cF A']? = some (cT A') := by
          rw [List.append_assoc]
          exact at_fill_of A' (false :: B)
        have e4 := hmin (cF A') (cT A') (by omega) e3
        have e5 := lo_rise ws (show cF A' ≤ f by omega)
        omega
  obtain ⟨A', rfl⟩ := tail
  have ec : cT (A' ++ [true]) = cT A' + 1 := by rw [cT_append]; rfl
  have ef : cF (A' ++ [true]) = cF A' := by rw [cF_append]; rfl
  have eo : A' ++ [true] ++ false :: B = A' ++ true :: false :: B := by rw [List.append_assoc]; rfl
  refine ⟨A', B, eo, ?_⟩
  rw [eo] at H hx
  obtain ⟨s1, s2⟩ := ct_swap A' B
  refine ⟨s1.trans H.t, s2.trans H.f, H.b, fun w hw => ?_⟩
  have hold := H.h w hw
  unfold hasW at hold ⊢
  rw [ahead_fc]
  rw [ahead_cf] at hold
  have la : (aheadL 0 A').length = cF A' := aheadL_len A' 0
  rw [List.getD_eq_getElem?_getD] at hold ⊢
  rcases Nat.lt_trichotomy w.2.2 (cF A') with h | h | h
  · rw [List.getElem?_append_left (by omega)] at hold ⊢
    exact hold
  · rw [List.getElem?_append_right (by omega), show w.2.2 - (aheadL 0 A').length = 0 by omega] at hold ⊢
    have hold : (w.1 == decide (w.2.1 < cT A' + 1)) = true := hold
    show (w.1 == decide (w.2.1 < cT A')) = true
    cases hk : w.1 with
    | true =>
      have := lo_le.mp (Nat.le_refl (loN ws f)) w hw hk (by omega)
      rw [decide_eq_true (show w.2.1 < cT A' by omega)]; rfl
    | false =>
      rw [hk] at hold
      have : ¬ w.2.1 < cT A' + 1 := fun z => by rw [decide_eq_true z] at hold; cases hold
      rw [decide_eq_false (show ¬ w.2.1 < cT A' by omega)]; rfl
  · obtain ⟨i, hi⟩ : ∃ i, w.2.2 - (aheadL 0 A').length = i + 1 := ⟨w.2.2 - (aheadL 0 A').length - 1, by omega⟩
    rw [List.getElem?_append_right (by omega), hi] at hold ⊢
    exact hold
end
end Pl
namespace Pl
open PySem PySem.Spec PyProof.Rows L2
variable [TJ]
abbrev TDp := Ro → (List (L2.Key × D) → Ro → Prop) → Prop
end Pl
namespace Pl
open PySem PySem.Spec PyProof.Rows L2
abbrev N__law_told : List Str := [("_law_cuts" : Str), ("_law_fills" : Str), ("_law_winds" : Str), ("_law_found" : Str), ("_law_caught" : Str), ("error" : Str), ("_law_fine" : Str)]
def T__law_told (g_order_for : FA) (gx_order_for : FX) : TSp :=
  (pSeq (pAsg (pTup (pCons (pC .non) (pCons (pC .non) pNil))) (hTup 2 (hCons (hName 3) (hCons (hName 4) hNil))))
    (pSeq (pTry 5 4 [("NoCore" : Str), ("NoOrder" : Str), ("TooMany" : Str)]
    (xOr (pSet 3 (pCallA 3 g_order_for (pCons (pVar 0) (pCons (pVar 1) (pCons (pVar 2) pNil)))))
    (xE (xCall 3 gx_order_for (pCons (pVar 0) (pCons (pVar 1) (pCons (pVar 2) pNil)))))))
    (pSeq (pIfS (pTest (pOp fIsN (pVar 4) (pC .non)))
    (pRet (pMove 3))
    pNext)
    (pSeq (pSet 6 (pVal (pAndV (pIsX [("NoCore" : Str), ("NoOrder" : Str), ("TooMany" : Str)] [("NoCore" : Str)] (pVar 4)) (pIsX [("NoCore" : Str), ("NoOrder" : Str), ("TooMany" : Str)] [("LookupError" : Str)] (pVar 4)))))
    (pSeq (pSet 6 (pVal (pAndV (pVar 6) (pNotV (pIsX [("NoCore" : Str), ("NoOrder" : Str), ("TooMany" : Str)] [("IndexError" : Str), ("KeyError" : Str)] (pVar 4))))))
    (pRet (pVal (pIf (pAnd (pTest (pVar 6)) (pNot (pTest (pIsX [("NoCore" : Str), ("NoOrder" : Str), ("TooMany" : Str)] [("NoOrder" : Str), ("TooMany" : Str)] (pVar 4))))) (pLst (pCons (pXf [("NoCore" : Str), ("NoOrder" : Str), ("TooMany" : Str)] "core" (pVar 4)) pNil)) (pC .non)))))))))
abbrev N__law_right : List Str := [("_law_box_here" : Str), ("_law_cuts" : Str), ("_law_fills" : Str), ("_law_orders_here" : Str), ("_law_firsts" : Str), ("_law_order" : Str), ("_law_winds" : Str), ("_law_some" : Str), ("_law_turn" : Str), ("_law_more" : Str), ("_law_due" : Str), ("_law_form" : Str)]
def T__law_right_1 (g__law_books : FB) : TSp :=
  (pAsg (pFrz (pCallB 0 2 g__law_books (pCons (pC (.int 4)) pNil))) (hTup 2 (hCons (hName 1) (hCons (hName 2) hNil))))
def T__law_right_2 (Pp : Program) (Pw : World) (g__law_orders : FA) : TSp :=
  (pParC 3 4 (pConsB (pCallA 2 g__law_orders (pCons (pLenO 1) (pCons (pLenO 2) pNil))) (pConsB (pNNew Pp Pw) pNilC)))
def T__law_right_3_1 (Pp : Program) (Pw : World) (g__law_core : FA) (g__law_almanac : FA) : TSp :=
  (pNPut Pp Pw 4 (pCB fTup (pCons (pFrz (pCallA 1 g__law_core (pCons (pFrz (pCallA 3 g__law_almanac (pCons (pVar 1) (pCons (pVar 2) (pCons (pVar 5) pNil))))) pNil))) pNil)) (pVar 5))
def T__law_right_3 (Pp : Program) (Pw : World) (g__law_core : FA) (g__law_almanac : FA) : TSp :=
  (pFor (jSeq (pUn fRev (pVar 3))) (hName 5)
    (T__law_right_3_1 Pp Pw g__law_core g__law_almanac))
def T__law_right_4 (Pp : Program) (Pw : World) : TSp :=
  (pSet 7 (pVal (pFrz (pLcON Pp Pw 4 (hName 6) pYes (pCB fLst (pCons (pVar 6) pNil)) [6]))))
def T__law_right_5 (g__law_of : FB) (g__law_core : FA) (g__law_near : FB) : TSp :=
  (pSet 9 (pVal (pLc (jRng1 (pCons (pC (.int 4)) pNil)) (hName 8) pYes (pFrz (pCallA 1 g__law_core (pCons (pFrz (pCallB 0 2 g__law_near (pCons (pFrz (pCallB 0 2 g__law_of (pCons (pVar 7) pNil))) pNil))) pNil))) [8])))
def T__law_right_6 (g__law_of : FB) (g__law_near : FB) : TSp :=
  (pSet 9 (pVal (pOp fAdd (pOp fAdd (pVar 9) (pLc (jRng1 (pCons (pC (.int 3)) pNil)) (hName 8) pYes (pFrz (pCallB 0 2 g__law_near (pCons (pFrz (pCallB 0 2 g__law_of (pCons (pVar 7) pNil))) pNil))) [8])) (pLst (pCons (pLst pNil) (pCons (pLst (pCons (pTup (pCons (pC (.str "cut")) (pCons (pOp fMulI (pC (.int 3)) (pC (.int 1000000000))) pNil))) pNil)) pNil))))))
def T__law_right_7_1 (Pp : Program) (Pw : World) : TSp :=
  (pSet 10 (pVal (pIf (pTest (pNIn Pp Pw 4 (pCB fTup (pCons (pVar 6) pNil)))) (pNGet Pp Pw 4 (pCB fTup (pCons (pVar 6) pNil))) (pLst (pCons (pVar 6) pNil)))))
def T__law_right_7_2_1 : TSp :=
  (pRet (pVal (pC (.bl false))))
def T__law_right_7_2 (g__law_same : FA) (g__law_told : FA) : TSp :=
  (pIfS (pNot (pTest (pFrz (pCallA 2 g__law_same (pCons (pFrz (pCallA 3 g__law_told (pCons (pVar 1) (pCons (pVar 2) (pCons (pVar 6) pNil))))) (pCons (pVar 10) pNil))))))
    T__law_right_7_2_1
    pNext)
def T__law_right_7_3 (g__law_lists : FA) : TSp :=
  (pSet 11 (pVal (pCB fTup (pCons (pFrz (pCallA 1 g__law_lists (pCons (pVar 6) pNil))) pNil))))
def T__law_right_7_4 (Pp : Program) (Pw : World) : TSp :=
  (pSet 10 (pVal (pIf (pTest (pNIn Pp Pw 4 (pCB fTup (pCons (pVar 6) pNil)))) (pVar 10) (pLst (pCons (pVar 11) pNil)))))
def T__law_right_7_5_1 : TSp :=
  (pRet (pVal (pC (.bl false))))
def T__law_right_7_5 (g__law_same : FA) (g__law_told : FA) : TSp :=
  (pIfS (pNot (pTest (pFrz (pCallA 2 g__law_same (pCons (pFrz (pCallA 3 g__law_told (pCons (pCB fTup (pCons (pVar 1) pNil)) (pCons (pVar 2) (pCons (pVar 11) pNil))))) (pCons (pVar 10) pNil))))))
    T__law_right_7_5_1
    pNext)
def T__law_right_7 (Pp : Program) (Pw : World) (g__law_same : FA) (g__law_lists : FA) (g__law_told : FA) : TSp :=
  (pFor (jSeq (pOp fAdd (pVar 7) (pVar 9))) (hName 6)
    (pSeq (T__law_right_7_1 Pp Pw)
    (pSeq (T__law_right_7_2 g__law_same g__law_told)
    (pSeq (T__law_right_7_3 g__law_lists)
    (pSeq (T__law_right_7_4 Pp Pw)
    (T__law_right_7_5 g__law_same g__law_told))))))
def T__law_right_8 : TSp :=
  (pRet (pVal (pC (.bl true))))
def T__law_right (Pp : Program) (Pw : World) (g__law_of : FB) (g__law_same : FA) (g__law_core : FA) (g__law_lists : FA) (g__law_books : FB) (g__law_orders : FA) (g__law_almanac : FA) (g__law_near : FB) (g__law_told : FA) : TSp :=
  (pSeq (T__law_right_1 g__law_books)
    (pSeq (T__law_right_2 Pp Pw g__law_orders)
    (pSeq (T__law_right_3 Pp Pw g__law_core g__law_almanac)
    (pSeq (T__law_right_4 Pp Pw)
    (pSeq (T__law_right_5 g__law_of g__law_core g__law_near)
    (pSeq (T__law_right_6 g__law_of g__law_near)
    (pSeq (T__law_right_7 Pp Pw g__law_same g__law_lists g__law_told)
    T__law_right_8)))))))
abbrev N_law : List Str := [("_law_script" : Str), ("_law_k" : Str), ("_law_box_here" : Str), ("_law_turn" : Str)]
def T_law_1_1 (g__law_box : FA) : TSp :=
  (pSet 2 (pCallA 2 g__law_box (pCons (pVar 0) (pCons (pVar 1) pNil))))
def T_law_1_2_1 : TSp :=
  (pRet (pVal (pC (.bl false))))
def T_law_1_2 (g__law_right : FB) : TSp :=
  (pIfS (pNot (pTest (pCB fAll (pCons (pLc (jRng1 (pCons (pC (.int 2)) pNil)) (hName 3) pYes (pFrz (pCallB 2 1 g__law_right pNil)) [3]) pNil))))
    T_law_1_2_1
    pNext)
def T_law_1 (g__law_box : FA) (g__law_right : FB) : TSp :=
  (pFor (jRng1 (pCons (pOp fAdd (pC (.int 1)) (pCB fMin2 (pCons (pC (.int 2)) (pCons (pLenO 0) pNil)))) pNil)) (hName 1)
    (pSeq (T_law_1_1 g__law_box)
    (T_law_1_2 g__law_right)))
def T_law_2 : TSp :=
  (pRet (pVal (pC (.bl true))))
def T_law (g__law_box : FA) (g__law_right : FB) : TSp :=
  (pSeq (T_law_1 g__law_box g__law_right)
    T_law_2)
def TX_order_for (g_is_core : FA) (g_alike : FA) (g_almanac_of : FA) (g_first_clash : FA) (g_order_at : FA) (g_words_for : FA) (gx_order_at : FX) (ok_NoCore : D → Prop) : TXs :=
  (xSeq (xOk (pSet 4 (pVal (pLc (jSeq (pVar 2)) (hName 3) pYes (pCB fTup (pCons (pVar 3) pNil)) [3]))))
    (xSeq (xOk (pSet 5 (pCallA 3 g_words_for (pCons (pVar 0) (pCons (pVar 1) (pCons (pVar 4) pNil))))))
    (xSeq (xIfS (pOr (pNot (pTest (pFrz (pCallA 1 g_is_core (pCons (pVar 4) pNil))))) (pTest (pOp fNotN (pFrz (pCallA 1 g_first_clash (pCons (pVar 5) pNil))) (pC .non))))
    (xRaise "NoCore" ok_NoCore (pCons (pVar 2) pNil))
    xNext)
    (xSeq (xOr (pSet 6 (pCallA 4 g_order_at (pCons (pVar 0) (pCons (pVar 1) (pCons (pVar 5) (pCons (pC (.int 0)) pNil))))))
    (xE (xCall 4 gx_order_at (pCons (pVar 0) (pCons (pVar 1) (pCons (pVar 5) (pCons (pC (.int 0)) pNil)))))))
    (xSeq (xIfS (pNot (pTest (pFrz (pCallA 2 g_alike (pCons (pFrz (pCallA 3 g_almanac_of (pCons (pVar 0) (pCons (pVar 1) (pCons (pVar 6) pNil))))) (pCons (pVar 4) pNil))))))
    (xRaise "NoCore" ok_NoCore (pCons (pVar 2) pNil))
    xNext)
    (xOk (pRet (pMove 6))))))))
theorem allO_len1 : ∀ (n c f : Nat), c + f ≤ n → (allO c f).length ≤ 2 ^ (c + f - 1)
  | _, 0, f, _ => by rw [allO]; exact Nat.one_le_two_pow
  | _, c + 1, 0, _ => by rw [allO]; exact Nat.one_le_two_pow
  | 0, c + 1, f + 1, h => by omega
  | n + 1, c + 1, f + 1, h => by
    rw [allO, List.length_append, List.length_map, List.length_map]
    have h1 := allO_len1 n c (f + 1) (by omega)
    have h2 := allO_len1 n (c + 1) f (by omega)
    rw [show c + (f + 1) - 1 = c + f by omega] at h1
    rw [show c + 1 + f - 1 = c + f by omega] at h2
    rw [show c + 1 + (f + 1) - 1 = (c + f) + 1 by omega, Nat.pow_succ]
    omega
theorem allO_five {c f : Nat} (hc : c ≤ 5) (hf : f ≤ 5) : (allO c f).length ≤ 512 :=
  Nat.le_trans (allO_len1 (c + f) c f (Nat.le_refl _)) (show 2 ^ (c + f - 1) ≤ 2 ^ 9 from Nat.pow_le_pow_right (by decide) (by omega))
abbrev txD (o : List Bool) : D := .str (txt o)
theorem lit_f1 : ("f" : Str) = ⟨#[102]⟩ := by decide +kernel
theorem mul_f (n : Nat) : Txt.mul ("f" : Str) ((n : Nat) : Int) = txt (List.replicate n false) := by
  refine str_ext ?_
  rw [lit_f1, mul_one_list]
  show List.replicate (Int.toNat (n : Int)) 102 = (List.replicate n false).map sg
  rw [List.map_replicate, Int.toNat_natCast]; rfl
def gOr : Nat → FA
  | 0 => fun _ _ => False
  | n + 1 => fun ds C => ∃ c f : Nat, ds = [.int (c : Int), .int (f : Int)] ∧ c ≤ 5 ∧ f ≤ 5 ∧ (c = 0 ∨ f = 0 ∨ c + f ≤ n + 1) ∧ ∀ p, C (.own p ((allO c f).map txD))
theorem rd_or (n : Nat) : ∀ ds C, ds.length = 2 → gOr (n + 1) ds C → T__law_orders (gOr n) (EA C) (startA N__law_orders ds) := by
  rintro ds C - ⟨c, f, rfl, hc, hf, hn, hC⟩
  have one : (1 : Nat) ≤ sizeLine := by decide
  have base : (c = 0 ∨ f = 0) → (pRet (pLstO (pCons (pOp fAdd (pOp fMulS (pC (.str "c")) (pVar 0)) (pOp fMulS (pC (.str "f")) (pVar 1))) pNil))) (EA C) [some (.val (.int (c : Int))), some (.val (.int (f : Int))), none] := fun h => by
    refine ⟨mulOk_small (by decide) (by omega) (by omega), mulOk_small (by decide) (by omega) (by omega), ?_⟩
    have e : allO c f = [List.replicate c true ++ List.replicate f false] := by
      rcases h with rfl | rfl
      · rw [allO]; rfl
      · cases c with
        | zero => rw [allO]; rfl
        | succ c => rw [allO]; simp
    have key : ∀ p, C (.own p [.str (Txt.mul ("c" : Str) (c : Int) ++ Txt.mul ("f" : Str) (f : Int))]) := fun p => by
      have := hC p
      rw [e] at this
      rw [mul_c, mul_f, txt_append]
      exact this
    refine ⟨?_, one, key⟩
    rw [mul_c, mul_f, txt_len, txt_len, List.length_replicate, List.length_replicate]
    exact sl1000 (by omega)
  refine ⟨sh_int _, sh_int _, ifB (fun h => base (.inl ?_)) (fun h => ⟨sh_int _, sh_int _, ifB (fun h2 => base (.inr ?_)) (fun h2 => ?_)⟩)⟩
  · have h : ((c : Int) == 0) = true := h
    have : (c : Int) = 0 := by simpa using h
    omega
  · have h2 : ((f : Int) == 0) = true := h2
    have : (f : Int) = 0 := by simpa using h2
    omega
  · have hc0 : c ≠ 0 := fun z => by subst z; exact absurd h (by decide)
    have hf0 : f ≠ 0 := fun z => by subst z; exact absurd h2 (by decide)
    obtain ⟨c, rfl⟩ := Nat.exists_eq_succ_of_ne_zero hc0
    obtain ⟨f, rfl⟩ := Nat.exists_eq_succ_of_ne_zero hf0
    have hn : c + 1 + (f + 1) ≤ n + 1 := by
      rcases hn with h | h | h
      · omega
      · omega
      · exact h
    cases n with
    | zero => omega
    | succ n =>
      have e1 : (((c + 1 : Nat) : Int) - 1) = (c : Int) := by omega
      have e2 : (((f + 1 : Nat) : Int) - 1) = (f : Int) := by omega
      have l1 := allO_five (c := c) (f := f + 1) (by omega) (by omega)
      have l2 := allO_five (c := c + 1) (f := f) (by omega) (by omega)
      refine ⟨rfl, c, f + 1, ?_, by omega, by omega, .inr (.inr (by omega)), fun p1 => ?_⟩
      · show [D.int (((c + 1 : Nat) : Int) - 1), D.int ((f + 1 : Nat) : Int)] = _
        rw [e1]
      refine lc_mp (allO c (f + 1)) txD (fun o => txD (true :: o)) rfl (fun o ho K hK => ?_) (by omega) ?_
      · have hl := (mem_allO _ _ _ (Nat.le_refl _) o).mp ho
        have := cT_cF o
        refine ⟨by rw [txt_len]; show 1 + o.length ≤ sizeLine; exact sl1000 (by omega), ?_⟩
        rw [show (("c" : Str) ++ txt o) = txt (true :: o) from txt_append [true] o]
        exact hK _ rfl
      refine ⟨rfl, c + 1, f, ?_, by omega, by omega, .inr (.inr (by omega)), fun p2 => ?_⟩
      · show [D.int ((c + 1 : Nat) : Int), D.int (((f + 1 : Nat) : Int) - 1)] = _
        rw [e2]
      refine lc_mp (allO (c + 1) f) txD (fun o => txD (false :: o)) rfl (fun o ho K hK => ?_) (by omega) ?_
      · have hl := (mem_allO _ _ _ (Nat.le_refl _) o).mp ho
        have := cT_cF o
        refine ⟨by rw [txt_len]; show 1 + o.length ≤ sizeLine; exact sl1000 (by omega), ?_⟩
        rw [show (("f" : Str) ++ txt o) = txt (false :: o) from txt_append [false] o]
        exact hK _ rfl
      refine ⟨Nat.le_trans (show ((allO c (f + 1)).map fun o => txD (true :: o)).length + ((allO (c + 1) f).map fun o => txD (false :: o)).length ≤ 2000 by rw [List.length_map, List.length_map]; omega) (by decide), fun p => ?_⟩
      have := hC p
      rw [allO, List.map_append, List.map_map, List.map_map] at this
      exact this
theorem al_0 (f : Nat) : (allO 0 f).length = 1 := by rw [allO]; rfl
theorem al_r (c : Nat) : (allO c 0).length = 1 := by
  cases c with
  | zero => exact al_0 0
  | succ c => rw [allO]; rfl
theorem al_s (c f : Nat) : (allO (c + 1) (f + 1)).length = (allO c (f + 1)).length + (allO (c + 1) f).length := by rw [allO, List.length_append, List.length_map, List.length_map]
theorem al_up {c f c' : Nat} : c ≤ c' → (allO c f).length ≤ (allO c' f).length := by
  intro h
  induction h with
  | refl => exact Nat.le_refl _
  | step h ih =>
    refine Nat.le_trans ih ?_
    rename_i m
    cases f with
    | zero => rw [al_r, al_r]; exact Nat.le_refl _
    | succ f => rw [al_s]; omega
theorem al_upF {c f f' : Nat} : f ≤ f' → (allO c f).length ≤ (allO c f').length := by
  intro h
  induction h with
  | refl => exact Nat.le_refl _
  | step h ih =>
    refine Nat.le_trans ih ?_
    rename_i m
    cases c with
    | zero => rw [al_0, al_0]; exact Nat.le_refl _
    | succ c => rw [al_s c m]; omega
theorem al_44 : (allO 4 4).length = 70 := by simp only [al_s, al_0, al_r]
theorem al_70 {c f : Nat} (hc : c ≤ 4) (hf : f ≤ 4) : (allO c f).length ≤ 70 := by
  have h1 := al_up (f := f) hc
  have h2 := al_upF (c := 4) hf
  rw [al_44] at h2
  omega
def kW (c : List Wd) : NestedKey := .tup (c.map fun w => .tup [.text (wordS w.1), .num w.2])
abbrev tW (c : List Wd) : D := .tup (windsD c)
theorem keyN_wind (w : Wd) : keyN (windD w.1 w.2) = some (.tup [.text (wordS w.1), .num w.2]) := by
  show keyN (.tup [.str (wordS w.1), .int w.2]) = _
  rw [keyN, keyNs, keyN, keyNs, keyN, keyNs]; rfl
theorem keyNs_winds : ∀ c : List Wd, keyNs (windsD c) = some (c.map fun w => .tup [.text (wordS w.1), .num w.2])
  | [] => by show keyNs [] = _; rw [keyNs]; rfl
  | w :: c => by
    show keyNs (windD w.1 w.2 :: windsD c) = _
    rw [keyNs, keyN_wind, keyNs_winds c]; rfl
theorem dep_winds : ∀ c : List Wd, NestedKey.depthAll (c.map fun w => .tup [.text (wordS w.1), .num w.2]) ≤ 1
  | [] => by show NestedKey.depthAll [] ≤ 1; rw [NestedKey.depthAll]; omega
  | w :: c => by
    show NestedKey.depthAll (.tup [.text (wordS w.1), .num w.2] :: c.map fun w => .tup [.text (wordS w.1), .num w.2]) ≤ 1
    have := dep_winds c
    rw [NestedKey.depthAll, NestedKey.depth, NestedKey.depthAll, NestedKey.depth, NestedKey.depthAll, NestedKey.depth, NestedKey.depthAll]
    omega
theorem key_tW (c : List Wd) : KeyD (tW c) (kW c) := ⟨⟨_, rfl⟩, by
  show keyN (.tup (windsD c)) = _
  rw [keyN, keyNs_winds]; rfl, by
  show NestedKey.depth (.tup (c.map fun w => .tup [.text (wordS w.1), .num w.2])) ≤ 8
  have := dep_winds c
  rw [NestedKey.depth]; omega⟩
theorem wordS_inj {a b : Bool} (h : wordS a = wordS b) : a = b := by cases a <;> cases b <;> first | rfl | exact absurd h (by decide +kernel)
theorem kW_inj {a b : List Wd} (h : kW a = kW b) : a = b := by
  injection h with h
  induction a generalizing b with
  | nil => cases b with
    | nil => rfl
    | cons y b => cases h
  | cons x a ih => cases b with
    | nil => cases h
    | cons y b =>
      injection h with h1 h2
      injection h1 with h1
      injection h1 with h3 h4
      injection h3 with h3
      injection h4 with h4 _
      injection h4 with h4
      have : x = y := Prod.ext (wordS_inj h3) h4
      rw [this, ih h2]
theorem kW_dec (a b : List Wd) : decide (kW a = kW b) = decide (a = b) := by
  by_cases h : a = b
  · subst h; simp
  · rw [decide_eq_false h, decide_eq_false fun z => h (kW_inj z)]
abbrev Mp := List (List Wd × List Bool)
def kps (M : Mp) : Kps := M.map fun p => (kW p.1, tW p.1, txS p.2)
def findM (M : Mp) (r : List Wd) : Option (List Bool) := (M.find? fun p => decide (p.1 = r)).map (·.2)
def putM (M : Mp) (r : List Wd) (o : List Bool) : Mp := if (findM M r).isSome = true then M.map (fun p => if p.1 = r then (p.1, o) else p) else M ++ [(r, o)]
theorem look_kps (r : List Wd) : ∀ M : Mp, lookK (kps M) (kW r) = (findM M r).map txS
  | [] => rfl
  | p :: M => by
    have ih := look_kps r M
    unfold lookK kps findM at *
    rw [List.map_cons, List.find?_cons, List.find?_cons]
    show Option.map _ (match decide (kW p.1 = kW r) with | true => some (kW p.1, tW p.1, txS p.2) | false => _) = _
    rw [kW_dec]
    by_cases h : p.1 = r
    · rw [decide_eq_true h]; rfl
    · rw [decide_eq_false h]; exact ih
theorem put_kps (M : Mp) (r : List Wd) (o : List Bool) : putKp (kps M) (kW r) (tW r) (txS o) = kps (putM M r o) := by
  have e : (lookK (kps M) (kW r)).isSome = (findM M r).isSome := by rw [look_kps]; cases findM M r <;> rfl
  unfold putKp putM
  rw [e]
  by_cases h : (findM M r).isSome = true
  · rw [if_pos h, if_pos h]
    unfold kps
    rw [List.map_map, List.map_map]
    refine List.map_congr_left fun p _ => ?_
    show (if kW p.1 = kW r then (kW p.1, tW p.1, txS o) else (kW p.1, tW p.1, txS p.2)) = _
    by_cases hp : p.1 = r
    · rw [if_pos (by rw [hp])]; simp [hp]
    · rw [if_neg fun z => hp (kW_inj z)]; simp [hp]
  · rw [if_neg h, if_neg h]
    unfold kps
    rw [List.map_append]; rfl
theorem keys_kps (M : Mp) : (kps M).map (·.2.1) = (M.map (·.1)).map tW := by
  unfold kps
  rw [List.map_map, List.map_map]; rfl
theorem find_put (M : Mp) (r s : List Wd) (o : List Bool) : findM (putM M r o) s = if s = r then some o else findM M s := by
  unfold putM
  by_cases h : (findM M r).isSome = true
  · rw [if_pos h]
    induction M with
    | nil => cases h
    | cons p M ih =>
      rw [List.map_cons]
      unfold findM
      rw [List.find?_cons, List.find?_cons]
      by_cases hp : p.1 = r
      · rw [if_pos hp]
        by_cases hs : s = r
        · subst hs
          rw [if_pos rfl]
          show Option.map _ (match decide (p.1 = s) with | true => some (p.1, o) | false => _) = _
          rw [decide_eq_true hp]; rfl
        · rw [if_neg hs]
          have n : p.1 ≠ s := fun z => hs (by rw [← z, hp])
          show Option.map _ (match decide (p.1 = s) with | true => some (p.1, o) | false => _) = Option.map _ (match decide (p.1 = s) with | true => some p | false => _)
          rw [decide_eq_false n]
          have rest : ∀ M : Mp, ((M.map fun p => if p.1 = r then (p.1, o) else p).find? fun p => decide (p.1 = s)).map (·.2) = (M.find? fun p => decide (p.1 = s)).map (·.2) := by
            intro M
            induction M with
            | nil => rfl
            | cons q M ih2 =>
              rw [List.map_cons, List.find?_cons, List.find?_cons]
              by_cases hq : q.1 = r
              · rw [if_pos hq]
                have n2 : q.1 ≠ s := fun z => hs (by rw [← z, hq])
                show Option.map _ (match decide (q.1 = s) with | true => some (q.1, o) | false => _) = Option.map _ (match decide (q.1 = s) with | true => some q | false => _)
                rw [decide_eq_false n2]
                exact ih2
              · rw [if_neg hq]
                cases decide (q.1 = s) with
                | true => rfl
                | false => exact ih2
          exact rest M
      · rw [if_neg hp]
        have h2 : (findM M r).isSome = true := by
          unfold findM at h ⊢
          rw [List.find?_cons, decide_eq_false hp] at h
          exact h
        have ih := ih h2
        unfold findM at ih
        by_cases hps : p.1 = s
        · have : s ≠ r := fun z => hp (by rw [hps, z])
          rw [decide_eq_true hps, if_neg this]
        · rw [decide_eq_false hps]
          exact ih
  · rw [if_neg h]
    unfold findM at h ⊢
    rw [List.find?_append]
    by_cases hs : s = r
    · subst hs
      rw [if_pos rfl]
      cases q : M.find? fun p => decide (p.1 = s) with
      | none =>
        show Option.map _ ([(s, o)].find? fun p => decide (p.1 = s)) = _
        rw [List.find?_cons, decide_eq_true rfl]; rfl
      | some p => rw [q] at h; exact absurd rfl h
    · rw [if_neg hs]
      cases q : M.find? fun p => decide (p.1 = s) with
      | none =>
        show Option.map _ ([(r, o)].find? fun p => decide (p.1 = s)) = _
        rw [List.find?_cons, decide_eq_false fun z => hs z.symm]; rfl
      | some p => rfl
theorem find_mem {M : Mp} {r : List Wd} : r ∈ M.map (·.1) ↔ (findM M r).isSome = true := by
  induction M with
  | nil => exact ⟨fun h => (by cases h), fun h => (by cases h)⟩
  | cons p M ih =>
    rw [List.map_cons, List.mem_cons]
    unfold findM at *
    rw [List.find?_cons]
    by_cases h : p.1 = r
    · rw [decide_eq_true h]; exact ⟨fun _ => rfl, fun _ => .inl h.symm⟩
    · rw [decide_eq_false h, ← ih]
      exact ⟨fun z => z.resolve_left fun e => h e.symm, .inr⟩
theorem put_keys {M : Mp} {r : List Wd} {o : List Bool} (nd : (M.map (·.1)).Nodup) : ((putM M r o).map (·.1)).Nodup ∧ (putM M r o).length ≤ M.length + 1 := by
  unfold putM
  by_cases h : (findM M r).isSome = true
  · rw [if_pos h]
    refine ⟨?_, by rw [List.length_map]; omega⟩
    rw [List.map_map]
    have : (fun p : List Wd × List Bool => p.1) ∘ (fun p => if p.1 = r then (p.1, o) else p) = fun p => p.1 := by
      funext p
      show (if p.1 = r then (p.1, o) else p).1 = p.1
      by_cases hp : p.1 = r
      · rw [if_pos hp]
      · rw [if_neg hp]
    rw [this]; exact nd
  · rw [if_neg h, List.map_append]
    refine ⟨List.nodup_append.mpr ⟨nd, by simp, fun x hx y hy z => ?_⟩, by simp⟩
    have hy : y = r := by simpa using hy
    subst hy z
    exact h (find_mem.mp hx)
theorem least_nat {p : Nat → Prop} (h : ∃ n, p n) : ∃ n, p n ∧ ∀ m, m < n → ¬ p m := by
  obtain ⟨n, hn⟩ := h
  induction n using Nat.strongRecOn with
  | _ n ih =>
    by_cases q : ∃ m, m < n ∧ p m
    · obtain ⟨m, hm, hp⟩ := q
      exact ih m hm hp
    · exact ⟨n, hn, fun m hm hp => q ⟨m, hm, hp⟩⟩
theorem clash_first {ws : List Wo} (h : ¬ NoClash ws) : ∃ i j, CW ws i j := by
  have h1 : ∃ i : Nat, ∃ (j : Nat) (u v : Wo), i < j ∧ ws[i]? = some u ∧ ws[j]? = some v ∧ contr u v = true := by
    apply Classical.byContradiction
    intro q
    apply h
    intro u hu v hv
    cases e : contr u v with
    | false => rfl
    | true =>
      obtain ⟨i, hi, rfl⟩ := List.getElem_of_mem hu
      obtain ⟨j, hj, rfl⟩ := List.getElem_of_mem hv
      rcases Nat.lt_trichotomy i j with l | l | l
      · exact absurd ⟨i, j, _, _, l, List.getElem?_eq_getElem hi, List.getElem?_eq_getElem hj, e⟩ q
      · subst l
        rw [contr_self] at e; exact e.symm
      · exact absurd ⟨j, i, _, _, l, List.getElem?_eq_getElem hj, List.getElem?_eq_getElem hi, by rw [contr_symm]; exact e⟩ q
  obtain ⟨i, hi, mi⟩ := least_nat h1
  obtain ⟨j, hj, mj⟩ := least_nat hi
  obtain ⟨u, v, hij, hu, hv, hc⟩ := hj
  refine ⟨i, j, hij, ⟨u, v, hu, hv, hc⟩, fun a b u' v' hab ha hb hh => ?_⟩
  cases e : contr u' v' with
  | false => rfl
  | true =>
    rcases hh with hh | ⟨rfl, hh⟩
    · exact absurd ⟨b, u', v', hab, ha, hb, e⟩ (mi a hh)
    · exact absurd ⟨u', v', hab, ha, hb, e⟩ (mj b hh)
theorem pair_clash {ws : List Wo} (h : NoPair ws) : NoClash ws := Classical.byContradiction fun q => by
  obtain ⟨i, j, hc⟩ := clash_first q
  exact hc.not h
structure Firsts (cuts fills : List Int) (M : Mp) : Prop where
  nd : (M.map (·.1)).Nodup
  at' : ∀ c, findM M c = (allO cuts.length fills.length).find? fun o => decide (coreL (alm cuts fills o) = c)
  few : M.length ≤ 70
theorem Firsts.core {cuts fills : List Int} {M : Mp} (h : Firsts cuts fills M) {c : List Wd} (hc : c ∈ coresS cuts fills) : findM M c = some (coreO cuts fills c) := by
  rw [h.at']
  obtain ⟨q1, q2, q3⟩ := coreO_of hc
  cases e : (allO cuts.length fills.length).find? fun o => decide (coreL (alm cuts fills o) = c) with
  | none =>
    have := List.find?_eq_none.mp e _ (mem_all.mpr q1)
    exact absurd (decide_eq_true q2) this
  | some a =>
    have pa : coreL (alm cuts fills a) = c := of_decide_eq_true (List.find?_some (p := fun o => decide (coreL (alm cuts fills o) = c)) e)
    have oa : ordB cuts fills a := mem_all.mp (List.mem_of_find?_eq_some e)
    have h1 := find_first (allO_rise _ _ _ (Nat.le_refl _)) e _ (mem_all.mpr q1) (decide_eq_true q2)
    have h2 := q3 a oa pa
    rcases h1 with h1 | h1
    · rw [h1]
    · rcases h2 with h2 | h2
      · rw [h2]
      · exact absurd h1 (ltO_asymm h2)
theorem Firsts.none {cuts fills : List Int} {M : Mp} (h : Firsts cuts fills M) {c : List Wd} (hc : c ∉ coresS cuts fills) : findM M c = Option.none := by
  rw [h.at']
  refine List.find?_eq_none.mpr fun o ho => ?_
  intro z
  exact hc (mem_coresS.mpr ⟨o, mem_all.mp ho, of_decide_eq_true z⟩)
theorem Firsts.mem {cuts fills : List Int} {M : Mp} (h : Firsts cuts fills M) (c : List Wd) : c ∈ M.map (·.1) ↔ c ∈ coresS cuts fills := by
  rw [find_mem]
  by_cases hc : c ∈ coresS cuts fills
  · rw [h.core hc]; exact ⟨fun _ => hc, fun _ => rfl⟩
  · rw [h.none hc]; exact ⟨fun z => (by cases z), fun z => absurd z hc⟩
def gx_order_for : FX := fun ds C => ∃ d cuts e fills a c, ds = [d, e, a] ∧ Sq d cuts ∧ Sq e fills ∧ cuts.length ≤ 400 ∧ fills.length ≤ 400 ∧ AmW a c ∧ (∀ w ∈ c, 0 ≤ w.2) ∧ c.length ≤ 900 ∧ okN 3 a ∧ c ∉ coresS cuts fills ∧ C ⟨"NoCore", a⟩
theorem wf_inB (cuts fills : List Int) (c : List Wd) : InB cuts.length fills.length (wfL cuts fills c) := fun w hw => by
  obtain ⟨q, hq, rfl⟩ := List.mem_map.mp hw
  exact meetL_in hq
theorem rdx_order_for {gx : FX} : ∀ ds C, ds.length = 3 → gx_order_for ds C → TX_order_for g_is_coreS g_alike g_almanac_of g_first_clashG (g_order_atG g_ways_onA) g_words_for gx okC E0 (EX C) (startA N_order_for ds) := by
  rintro ds C - ⟨d, cuts, e, fills, a, c, rfl, hd, he, hc, hf, ha, cpos, hcl, oka, hno, hC⟩
  have wl : (wfL cuts fills c).length ≤ 800 := by
    have := (meetL_rise cuts fills).2
    show ((meetL cuts fills).map _).length ≤ 800
    rw [List.length_map]; omega
  refine tup_amW (P := E0) (tail := fun _ ρ => (xSeq (xOk (pSet 5 (pCallA 3 g_words_for (pCons (pVar 0) (pCons (pVar 1) (pCons (pVar 4) pNil))))))
    (xSeq (xIfS (pOr (pNot (pTest (pFrz (pCallA 1 g_is_coreS (pCons (pVar 4) pNil))))) (pTest (pOp fNotN (pFrz (pCallA 1 g_first_clashG (pCons (pVar 5) pNil))) (pC .non))))
    (xRaise "NoCore" okC (pCons (pVar 2) pNil))
    xNext)
    (xSeq (xOr (pSet 6 (pCallA 4 (g_order_atG g_ways_onA) (pCons (pVar 0) (pCons (pVar 1) (pCons (pVar 5) (pCons (pC (.int 0)) pNil))))))
    (xE (xCall 4 gx (pCons (pVar 0) (pCons (pVar 1) (pCons (pVar 5) (pCons (pC (.int 0)) pNil)))))))
    (xSeq (xIfS (pNot (pTest (pFrz (pCallA 2 g_alike (pCons (pFrz (pCallA 3 g_almanac_of (pCons (pVar 0) (pCons (pVar 1) (pCons (pVar 6) pNil))))) (pCons (pVar 4) pNil))))))
    (xRaise "NoCore" okC (pCons (pVar 2) pNil))
    xNext)
    (xOk (pRet (pMove 6))))))) E0 (EX C) ρ) ha hcl ?_
  refine ⟨rfl, d, cuts, e, fills, _, c, rfl, hd, he, hc, hf, AmW.lst c, fun p => ?_⟩
  refine ⟨rfl, c, rfl, cpos, hcl, ?_⟩
  by_cases cc : coreL c = c
  · rw [decide_eq_true cc]
    refine ⟨rfl, false, .lst (wordsD (wfL cuts fills c)), wfL cuts fills c, rfl, .inl rfl, by omega, fun i j hij => ?_, fun np => ?_⟩
    · exact ⟨oka, hC⟩
    · have hn := pair_clash np
      have hb := wf_inB cuts fills c
      have fo := first_has hb hn
      have fo : ordB cuts fills (firstO cuts fills (wfL cuts fills c)) := ⟨fo.t, fo.f⟩
      have fl := alm_len fo
      have hol := cT_cF (firstO cuts fills (wfL cuts fills c))
      have f1 := fo.1
      have f2 := fo.2
      refine .inl ⟨rfl, order_listed (r := false) (j := 0) hd he (.inl rfl) hn (by omega) hc hf hb (first_at hb hn) ?_⟩
      refine ⟨rfl, d, cuts, e, fills, _, rfl, hd, he, by omega, by omega, by omega, fun p2 => ?_⟩
      refine ⟨rfl, _, alm cuts fills (firstO cuts fills (wfL cuts fills c)), _, c, rfl, AmW.lst _, AmW.lst c, by omega, by omega, ?_⟩
      have ec : coreL (alm cuts fills (firstO cuts fills (wfL cuts fills c))) ≠ coreL c := fun z => by
        rw [cc] at z
        exact hno (mem_coresS.mpr ⟨_, fo, z⟩)
      rw [decide_eq_false ec]
      exact ⟨oka, hC⟩
  · rw [decide_eq_false cc]
    exact ⟨oka, hC⟩
def g__law_toldN : FA := fun ds C => ∃ d cuts e fills a c, ds = [d, e, a] ∧ Sq d cuts ∧ Sq e fills ∧ cuts.length ≤ 400 ∧ fills.length ≤ 400 ∧ Pos0 cuts ∧ Pos0 fills ∧ AmW a c ∧ (∀ w ∈ c, 0 ≤ w.2) ∧ c.length ≤ 900 ∧ okN 3 a ∧
  ((c ∈ coresS cuts fills ∧ C (.val (txS (coreO cuts fills c)))) ∨ (c ∉ coresS cuts fills ∧ C (.val (.lst [a]))))
theorem rd__law_toldN : ∀ ds C, ds.length = 3 → g__law_toldN ds C → T__law_told g_order_for gx_order_for (EA C) (startA N__law_told ds) := by
  rintro ds C - ⟨d, cuts, e, fills, a, c, rfl, hd, he, hc, hf, pc, pf, ha, cpos, hcl, oka, h⟩
  rcases h with ⟨hin, hC⟩ | ⟨hno, hC⟩
  · exact ⟨by show (2 : Nat) ≤ sizeLine; decide, rfl, rfl, .inl ⟨rfl, order_for_core hin hd he hc hf pc pf ha hC⟩⟩
  · have b1 : ([("NoCore" : Str)].any (isaX "NoCore")) = true := by decide +kernel
    have b2 : ([("LookupError" : Str)].any (isaX "NoCore")) = true := by decide +kernel
    have b3 : ([("IndexError" : Str), ("KeyError" : Str)].any (isaX "NoCore")) = false := by decide +kernel
    have b4 : ([("NoOrder" : Str), ("TooMany" : Str)].any (isaX "NoCore")) = false := by decide +kernel
    refine ⟨by show (2 : Nat) ≤ sizeLine; decide, rfl, rfl, .inr ⟨rfl, d, cuts, e, fills, a, c, rfl, hd, he, hc, hf, ha, cpos, hcl, oka, hno, by simp, ?_⟩⟩
    refine ⟨by simp, ?_⟩
    rw [b1]
    refine ⟨by simp, ?_⟩
    rw [b2]
    refine ⟨by simp, ?_⟩
    rw [b3]
    refine ⟨by simp, ifT (by show (!([("NoOrder" : Str), ("TooMany" : Str)].any (isaX "NoCore"))) = true; rw [b4]; rfl) ⟨by simp, rfl, by show (1 : Nat) ≤ sizeLine; decide, hC⟩⟩
theorem lcNW_mp {α : Type} {P : Program} {w : World} {i : Nat} {a : Addr} {o : Obj} {kvs : List NE} {ps : Kps} {vs : List Nat} {g : TGp} {te : TEp} {Q : List D → Ro → Prop} {ρ : Ro} {d f : α → D} : ∀ (xs : List α) (acc : List D), ρ[i]? = some (nLk P w a o kvs ps) → (∀ x ∈ xs, ElemOk vs g te ρ (d x) (f x)) → acc.length + xs.length ≤ sizeLine → Q (acc ++ xs.map f) (ρ.set i (nB P w a ps)) → lcNW P w i a o kvs ps vs g pYes te Q (xs.map d) acc ρ
  | [], acc, hi, _, _, hQ => by
    have hQ : Q (acc ++ []) (ρ.set i (nB P w a ps)) := hQ
    rw [List.append_nil] at hQ
    exact ⟨hi, hQ⟩
  | x :: xs, acc, hi, h, hl, hQ => by
    have hl' : acc.length + (xs.length + 1) ≤ sizeLine := hl
    refine ⟨hi, h x (by simp) _ fun ρ4 e => ⟨by omega, ?_⟩⟩
    rw [e]
    refine lcNW_mp xs _ hi (fun y hy => h y (by simp [hy])) (by rw [List.length_append]; show acc.length + 1 + xs.length ≤ sizeLine; omega) ?_
    rw [List.append_assoc]
    exact hQ
abbrev vL' (l : List Int) : Option Cell := some (.val (.lst (dI l)))
abbrev vAs (L : List (List Wd)) : Option Cell := some (.val (.lst (L.map almD)))
abbrev fW (c : List Wd) : D := .tup (c.map fun w => .lst [.str (wordS w.1), .int w.2])
def Fine (c : List Wd) : Prop := (∀ w ∈ c, 0 ≤ w.2) ∧ c.length ≤ 20
theorem okN_fW {c : List Wd} (h : c.length ≤ 1000) : okN 2 (fW c) := ⟨by rw [List.length_map]; exact h, fun x hx => by
  obtain ⟨w, _, rfl⟩ := List.mem_map.mp hx
  exact ⟨by show (2 : Nat) ≤ 1000; decide, fun y hy => by
    rcases List.mem_cons.mp hy with rfl | hy
    · exact sh_word _
    · rw [List.mem_singleton.mp hy]; trivial⟩⟩
theorem okN_one {m : Nat} {d : D} (h : okN m d) : okN (m + 1) (.lst [d]) := ⟨by show (1 : Nat) ≤ 1000; decide, fun x hx => by rw [List.mem_singleton.mp hx]; exact h⟩
theorem amW_form (c : List Wd) : AmW (fW c) c := by
  refine ⟨c.map fun w => (.lst [.str (wordS w.1), .int w.2], w), .inr (by rw [List.map_map]; rfl), fun p hp => ?_, by rw [List.map_map]; exact List.map_id' c⟩
  obtain ⟨w, _, rfl⟩ := List.mem_map.mp hp
  exact .inr rfl
section
variable {P : PEnds} {Pp : Program} {Pw : World} {a0 a3 a4 : Addr} {zs : List D} {n : Nat} {cuts fills : List Int} {M : Mp}
abbrev rho (w0 : Option Cell) (w1 : Option Cell) (w2 : Option Cell) (w3 : Option Cell) (w4 : Option Cell) (w5 : Option Cell) (w6 : Option Cell) (w7 : Option Cell) (w9 : Option Cell) (w10 : Option Cell) (w11 : Option Cell) : Ro := [w0, w1, w2, w3, w4, w5, w6, w7, none, w9, w10, w11]
variable {w0 w1 w2 w3 w4 w5 w6 w7 w9 w10 w11 : Option Cell}
theorem t1 (hB : Bx n zs) (hn : n ≤ 100000000) (hP : ∀ cuts fills zs, cuts.length ≤ 4 → fills.length ≤ 4 → Pos0 cuts → Pos0 fills → Bx (n + 5000) zs → P.nx (rho (vo a0 zs) (vL' cuts) (vL' fills) w3 w4 w5 w6 w7 w9 w10 w11)) : T__law_right_1 g__law_books P (rho (vo a0 zs) w1 w2 w3 w4 w5 w6 w7 w9 w10 w11) :=
  ⟨zs, rfl, rfl, n, 4, by omega, hB, rfl, by decide, fun cuts fills zs1 h1 h2 h3 h4 hB1 => ⟨rfl, rfl, hP cuts fills zs1 h1 h2 h3 h4 hB1⟩⟩
theorem t2 (hc : cuts.length ≤ 4) (hf : fills.length ≤ 4) (hP : ∀ a3 a4, P.nx (rho w0 (vL' cuts) (vL' fills) (vo a3 ((allO cuts.length fills.length).map txD)) (nB Pp Pw a4 (kps [])) w5 w6 w7 w9 w10 w11)) : T__law_right_2 Pp Pw (gOr 10) P (rho w0 (vL' cuts) (vL' fills) w3 w4 w5 w6 w7 w9 w10 w11) := by
  refine ⟨rfl, cuts.length, fills.length, by rw [ints_len, ints_len], by omega, by omega, .inr (.inr (by show cuts.length + fills.length ≤ 9 + 1; omega)), fun p a => ?_⟩
  exact hP p a
theorem t3 (hc : cuts.length ≤ 4) (hf : fills.length ≤ 4) (hP : ∀ M w3 w5, Firsts cuts fills M → P.nx (rho w0 (vL' cuts) (vL' fills) w3 (nB Pp Pw a4 (kps M)) w5 w6 w7 w9 w10 w11)) : T__law_right_3 Pp Pw g__law_core g__law_almanac P (rho w0 (vL' cuts) (vL' fills) (vo a3 ((allO cuts.length fills.length).map txD)) (nB Pp Pw a4 (kps [])) w5 w6 w7 w9 w10 w11) := by
  have al := al_70 hc hf
  have er : ((allO cuts.length fills.length).map txD).reverse = (allO cuts.length fills.length).reverse.map txD := by rw [List.map_reverse]
  show forW _ _ _ (((allO cuts.length fills.length).map txD).reverse) _
  rw [er]
  refine fr_mp (allO cuts.length fills.length).reverse txD (fun r ρ => ∃ (suf : List (List Bool)) (M : Mp) (w3 w5 : Option Cell), allO cuts.length fills.length = r.reverse ++ suf ∧ (M.map (·.1)).Nodup ∧ (∀ t, findM M t = suf.find? fun o => decide (coreL (alm cuts fills o) = t)) ∧ M.length ≤ suf.length ∧ ρ = (rho w0 (vL' cuts) (vL' fills) w3 (nB Pp Pw a4 (kps M)) w5 w6 w7 w9 w10 w11)) rfl ⟨[], [], _, w5, by simp, List.nodup_nil, fun t => rfl, Nat.le_refl _, rfl⟩ (fun o r ρ K hI hK => ?_) (fun ρ hI => ?_)
  · obtain ⟨suf, M, w3, w5, es, nd, hat, hln, rfl⟩ := hI
    have es2 : allO cuts.length fills.length = r.reverse ++ (o :: suf) := by rw [es, List.reverse_cons, List.append_assoc]; rfl
    have ho : ordB cuts fills o := mem_all.mp (by rw [es2]; simp)
    have hol := cT_cF o
    have q1 := ho.1
    have q2 := ho.2
    have q3 := alm_len ho
    have sl : suf.length < 70 := by
      have := congrArg List.length es2
      rw [List.length_append, List.length_cons] at this
      omega
    obtain ⟨k1, k2⟩ := put_keys (r := coreL (alm cuts fills o)) (o := o) nd
    refine ⟨a4, kps M, rfl, rfl, _, cuts, _, fills, o, rfl, .inr rfl, .inr rfl, by omega, by omega, by omega, fun p => ⟨rfl, _, alm cuts fills o, rfl, .inl rfl, by omega, fun p2 => ⟨kps M, kW (coreL (alm cuts fills o)), rfl, key_tW _, by unfold kps; rw [List.length_map]; exact sl1000 (by omega), ?_⟩⟩⟩
    have key := hK (rho w0 (vL' cuts) (vL' fills) w3 (nB Pp Pw a4 (kps (putM M (coreL (alm cuts fills o)) o))) (some (.val (txS o))) w6 w7 w9 w10 w11) ⟨o :: suf, putM M (coreL (alm cuts fills o)) o, w3, _, es2, k1, fun t => ?_, by simp; omega, rfl⟩
    · rw [← put_kps] at key
      exact key
    · rw [find_put, List.find?_cons, hat t]
      by_cases h : t = coreL (alm cuts fills o)
      · rw [if_pos h, decide_eq_true h.symm]
      · rw [if_neg h, decide_eq_false fun z => h z.symm]
  · obtain ⟨suf, M, w3, w5, es, nd, hat, hln, rfl⟩ := hI
    have es : allO cuts.length fills.length = suf := es
    exact hP M w3 w5 ⟨nd, fun t => by rw [hat t, ← es], by rw [← es] at hln; omega⟩
theorem t4 (F : Firsts cuts fills M) (hP : P.nx (rho w0 w1 w2 w3 (nB Pp Pw a4 (kps M)) w5 none (vAs (M.map (·.1))) w9 w10 w11)) : T__law_right_4 Pp Pw P (rho w0 w1 w2 w3 (nB Pp Pw a4 (kps M)) w5 none w7 w9 w10 w11) := by
  refine ⟨a4, kps M, rfl, fun o kvs hk => ?_⟩
  have e : keysK (kps M) = (M.map (·.1)).map tW := keys_kps M
  rw [e]
  have few := F.few
  show lcNW Pp Pw 4 a4 o kvs (kps M) [6] (hName 6) pYes (pCB fLst (pCons (pVar 6) pNil)) _ ((M.map (·.1)).map tW) [] _
  refine @lcNW_mp _ Pp Pw 4 a4 o kvs (kps M) [6] (hName 6) (pCB fLst (pCons (pVar 6) pNil)) _ ((rho w0 w1 w2 w3 (nLk Pp Pw a4 o kvs (kps M)) w5 none w7 w9 w10 w11)) tW almD (M.map (·.1)) [] rfl ?_ ?_ ?_
  · intro c hc K hK
    exact hK _ rfl
  · rw [List.length_map]
    show 0 + _ ≤ sizeLine
    rw [Nat.zero_add]
    exact sl1000 (by omega)
  · exact fun p => hP
theorem core_fine (hc : cuts.length ≤ 4) (hf : fills.length ≤ 4) (pc : Pos0 cuts) (pf : Pos0 fills) {c : List Wd} (h : c ∈ coresS cuts fills) : Fine c := by
  obtain ⟨h1, h2⟩ := core_nonneg pc pf h
  exact ⟨h1, by omega⟩
def Keys (cuts fills : List Int) (S : List (List Wd)) : Prop := S ≠ [] ∧ S.length ≤ 70 ∧ ∀ c ∈ S, (∀ w ∈ c, 0 ≤ w.2) ∧ c.length ≤ 8
theorem t5 {S : List (List Wd)} (hK0 : Keys cuts fills S) (hB : Bx n zs) (hn : n ≤ 100000000) (hP : ∀ zs L, Bx (n + 1000) zs → (∀ c ∈ L, Fine c) → L.length = 4 → P.nx (rho (vo a0 zs) w1 w2 w3 w4 w5 w6 (vAs S) (vAs L) w10 w11)) : T__law_right_5 g__law_of g__law_core g__law_near P (rho (vo a0 zs) w1 w2 w3 w4 w5 w6 (vAs S) w9 w10 w11) := by
  obtain ⟨s1, s2, s3⟩ := hK0
  have spos : 0 < S.length := List.length_pos_iff.mpr s1
  refine ⟨by decide, by decide, ?_⟩
  refine lcW_inv (fun ds acc ρ => ∃ (zs : List D) (L : List (List Wd)), acc = L.map almD ∧ L.length + ds.length = 4 ∧ (∀ c ∈ L, Fine c) ∧ Bx (n + 50 * L.length) zs ∧ ρ = (rho (vo a0 zs) w1 w2 w3 w4 w5 w6 (vAs S) w9 w10 w11)) (fun d r acc ρ K hK hI => ?_) (fun acc ρ hI => ?_) _ _ _ ⟨zs, [], rfl, by simp [rangeD], fun c hc => absurd hc List.not_mem_nil, hB, rfl⟩
  · obtain ⟨zs, L, rfl, hl, hL, hB, rfl⟩ := hI
    have hl : L.length + (r.length + 1) = 4 := hl
    refine ⟨zs, rfl, rfl, n + 50 * L.length, _, _, by omega, hB, rfl, .inl rfl, by rw [List.length_map]; exact spos, by rw [List.length_map]; omega, fun y zs1 hy hB1 => ?_⟩
    obtain ⟨c, hc, rfl⟩ := List.mem_map.mp hy
    obtain ⟨c1, c2⟩ := s3 c hc
    refine ⟨zs1, rfl, rfl, n + 50 * L.length + 2, _, c, by omega, hB1, rfl, .inl rfl, by omega, c1, fun vs zs2 v1 v2 hB2 => ?_⟩
    refine ⟨rfl, _, vs, rfl, .inl rfl, by omega, fun p => ⟨by rw [List.length_map]; exact sl1000 (by omega), ?_⟩⟩
    have em : L.map almD ++ [.lst (windsD (coreL vs))] = (L ++ [coreL vs]).map almD := by rw [List.map_append]; rfl
    show K (L.map almD ++ [.lst (windsD (coreL vs))]) _
    rw [em]
    refine hK _ _ ⟨zs2, L ++ [coreL vs], rfl, by rw [List.length_append]; show L.length + 1 + r.length = 4; omega, fun x hx => ?_, hB2.mono (by rw [List.length_append]; show _ ≤ n + 50 * (L.length + 1); omega), rfl⟩
    rcases List.mem_append.mp hx with hx | hx
    · exact hL x hx
    · rw [List.mem_singleton.mp hx]
      exact ⟨fun w hw => v2 w (coreL_sub hw), by have := coreL_len vs; omega⟩
  · obtain ⟨zs, L, rfl, hl, hL, hB, rfl⟩ := hI
    exact hP zs L (hB.mono (by omega)) hL hl
theorem t6 {S L1 : List (List Wd)} (hK0 : Keys cuts fills S) (hB : Bx n zs) (hn : n ≤ 100000000) (h1 : ∀ c ∈ L1, Fine c) (h1l : L1.length = 4) (hP : ∀ zs L, (∀ c ∈ L, Fine c) → L.length ≤ 20 → Bx (n + 1000) zs → P.nx (rho (vo a0 zs) w1 w2 w3 w4 w5 w6 (vAs S) (vAs L) w10 w11)) : T__law_right_6 g__law_of g__law_near P (rho (vo a0 zs) w1 w2 w3 w4 w5 w6 (vAs S) (vAs L1) w10 w11) := by
  obtain ⟨s1, s2, s3⟩ := hK0
  have spos : 0 < S.length := List.length_pos_iff.mpr s1
  refine ⟨by decide, by decide, ?_⟩
  refine lcW_inv (fun ds acc ρ => ∃ (zs : List D) (L : List (List Wd)), acc = L.map almD ∧ L.length + ds.length = 3 ∧ (∀ c ∈ L, Fine c) ∧ Bx (n + 50 * L.length) zs ∧ ρ = (rho (vo a0 zs) w1 w2 w3 w4 w5 w6 (vAs S) (vAs L1) w10 w11)) (fun d r acc ρ K hK hI => ?_) (fun acc ρ hI => ?_) _ _ _ ⟨zs, [], rfl, by simp [rangeD], fun c hc => absurd hc List.not_mem_nil, hB, rfl⟩
  · obtain ⟨zs, L, rfl, hl, hL, hB, rfl⟩ := hI
    have hl : L.length + (r.length + 1) = 3 := hl
    refine ⟨zs, rfl, rfl, n + 50 * L.length, _, _, by omega, hB, rfl, .inl rfl, by rw [List.length_map]; exact spos, by rw [List.length_map]; omega, fun y zs1 hy hB1 => ?_⟩
    obtain ⟨c, hc, rfl⟩ := List.mem_map.mp hy
    obtain ⟨c1, c2⟩ := s3 c hc
    refine ⟨zs1, rfl, rfl, n + 50 * L.length + 2, _, c, by omega, hB1, rfl, .inl rfl, by omega, c1, fun vs zs2 v1 v2 hB2 => ⟨by rw [List.length_map]; exact sl1000 (by omega), ?_⟩⟩
    have em : L.map almD ++ [.lst (windsD vs)] = (L ++ [vs]).map almD := by rw [List.map_append]; rfl
    show K (L.map almD ++ [.lst (windsD vs)]) _
    rw [em]
    refine hK _ _ ⟨zs2, L ++ [vs], rfl, by rw [List.length_append]; show L.length + 1 + r.length = 3; omega, fun x hx => ?_, hB2.mono (by rw [List.length_append]; show _ ≤ n + 50 * (L.length + 1); omega), rfl⟩
    rcases List.mem_append.mp hx with hx | hx
    · exact hL x hx
    · rw [List.mem_singleton.mp hx]
      exact ⟨v2, by omega⟩
  · obtain ⟨zs, L, rfl, hl, hL, hB, rfl⟩ := hI
    have hl : L.length = 3 := hl
    have em : L1.map almD ++ L.map almD ++ [.lst [], .lst [.tup [.str "cut", .int (3 * 1000000000)]]] = (L1 ++ L ++ [[], [(true, 3000000000)]]).map almD := by
      rw [List.map_append, List.map_append]
      rfl
    refine ⟨by rw [List.length_map, List.length_map]; exact sl1000 (by omega), ?_⟩
    refine ⟨by show (0 : Nat) ≤ sizeLine; decide, .inl ⟨by decide, by decide⟩, by show (2 : Nat) ≤ sizeLine; decide, by show (1 : Nat) ≤ sizeLine; decide, by show (2 : Nat) ≤ sizeLine; decide, ?_, ?_⟩
    · rw [List.length_append, List.length_map, List.length_map]; exact sl1000 (by show L1.length + L.length + 2 ≤ 1000; omega)
    · rw [em]
      refine hP zs _ (fun c hc => ?_) (by rw [List.length_append, List.length_append]; show L1.length + L.length + 2 ≤ 20; omega) (hB.mono (by omega))
      rcases List.mem_append.mp hc with hc | hc
      · rcases List.mem_append.mp hc with hc | hc
        · exact h1 c hc
        · exact hL c hc
      · simp only [List.mem_cons, List.not_mem_nil, or_false] at hc
        rcases hc with rfl | rfl
        · exact ⟨fun w hw => absurd hw List.not_mem_nil, by decide⟩
        · exact ⟨fun w hw => by rw [List.mem_singleton.mp hw]; decide, by decide⟩
theorem t7 {S L : List (List Wd)} (F : Firsts cuts fills M) (hc : cuts.length ≤ 4) (hf : fills.length ≤ 4) (pc : Pos0 cuts) (pf : Pos0 fills) (hS : ∀ c ∈ S, Fine c) (hL : ∀ c ∈ L, Fine c) (hSl : S.length ≤ 70) (hLl : L.length ≤ 20) (hP : ∀ w6 w10 w11, P.nx (rho w0 (vL' cuts) (vL' fills) w3 (nB Pp Pw a4 (kps M)) w5 w6 (vAs S) (vAs L) w10 w11)) : T__law_right_7 Pp Pw (gS 4) (gL 4) g__law_toldN P (rho w0 (vL' cuts) (vL' fills) w3 (nB Pp Pw a4 (kps M)) w5 w6 (vAs S) (vAs L) w10 w11) := by
  refine ⟨by rw [List.length_map, List.length_map]; exact sl1000 (by omega), ?_⟩
  refine fr_mp (S ++ L) almD (fun r ρ => (∀ c ∈ r, Fine c) ∧ ∃ w6 w10 w11, ρ = (rho w0 (vL' cuts) (vL' fills) w3 (nB Pp Pw a4 (kps M)) w5 w6 (vAs S) (vAs L) w10 w11)) (by rw [List.map_append]) ⟨fun c hcm => (List.mem_append.mp hcm).elim (hS c) (hL c), _, _, _, rfl⟩ (fun c r ρ K hI hK => ?_) (fun ρ hI => ?_)
  · obtain ⟨hr, w6, w10, w11, rfl⟩ := hI
    obtain ⟨c1, c2⟩ := hr c List.mem_cons_self
    have tl : toL (almD c) = .lst (c.map fun w => .lst [.str (wordS w.1), .int w.2]) := toL_winds c
    have ok3 : okN 3 (almD c) := okN_winds (by omega)
    have ok2 : okN 2 (almD c) := okN_winds2 (by omega)
    by_cases hin : c ∈ coresS cuts fills
    · have fm := F.core hin
      have lk : (lookK (kps M) (kW c)) = some (txS (coreO cuts fills c)) := by rw [look_kps, fm]; rfl
      have okt : okN 3 (txS (coreO cuts fills c)) := by
        have h := (coreO_of hin).1
        have := cT_cF (coreO cuts fills c)
        have h1 := h.1
        have h2 := h.2
        exact (sh_tx (by omega) : (D.str (txt (coreO cuts fills c))).sh)
      refine ⟨a4, kps M, kW c, _, rfl, .inl rfl, key_tW c, ifT (by rw [lk]; rfl) ?_⟩
      refine ⟨a4, kps M, _, rfl, .inl rfl, kps M, kW c, _, _, rfl, .inl rfl, key_tW c, lk, ?_⟩
      refine ⟨rfl, _, cuts, _, fills, _, c, rfl, .inr rfl, .inr rfl, by omega, by omega, pc, pf, AmW.lst c, c1, by omega, ok3, .inl ⟨hin, ?_⟩⟩
      refine ⟨rfl, _, rfl, okt, ifF rfl ?_⟩
      refine ⟨rfl, almD c, rfl, ok3, ?_⟩
      rw [tl]
      refine ⟨a4, kps M, kW c, _, rfl, .inl rfl, key_tW c, ifT (by rw [lk]; rfl) ?_⟩
      refine ⟨rfl, _, cuts, _, fills, _, c, rfl, .inl rfl, .inr rfl, by omega, by omega, pc, pf, amW_form c, c1, by omega, okN_up (okN_fW (by omega)), .inl ⟨hin, ?_⟩⟩
      refine ⟨rfl, _, rfl, okt, ifF rfl ?_⟩
      exact hK _ ⟨fun x hx => hr x (List.mem_cons_of_mem _ hx), _, _, _, rfl⟩
    · have fm := F.none hin
      have lk : (lookK (kps M) (kW c)) = Option.none := by rw [look_kps, fm]; rfl
      refine ⟨a4, kps M, kW c, _, rfl, .inl rfl, key_tW c, ifF (by rw [lk]; rfl) ?_⟩
      refine ⟨by show (1 : Nat) ≤ sizeLine; decide, ?_⟩
      refine ⟨rfl, _, cuts, _, fills, _, c, rfl, .inr rfl, .inr rfl, by omega, by omega, pc, pf, AmW.lst c, c1, by omega, ok3, .inr ⟨hin, ?_⟩⟩
      refine ⟨rfl, _, rfl, okN_one ok2, ifF rfl ?_⟩
      refine ⟨rfl, almD c, rfl, ok3, ?_⟩
      rw [tl]
      refine ⟨a4, kps M, kW c, _, rfl, .inl rfl, key_tW c, ifF (by rw [lk]; rfl) ?_⟩
      refine ⟨by show (1 : Nat) ≤ sizeLine; decide, ?_⟩
      refine ⟨rfl, _, cuts, _, fills, _, c, rfl, .inl rfl, .inr rfl, by omega, by omega, pc, pf, amW_form c, c1, by omega, okN_up (okN_fW (by omega)), .inr ⟨hin, ?_⟩⟩
      refine ⟨rfl, _, rfl, okN_one (okN_fW (by omega)), ifF rfl ?_⟩
      exact hK _ ⟨fun x hx => hr x (List.mem_cons_of_mem _ hx), _, _, _, rfl⟩
  · obtain ⟨_, w6, w10, w11, rfl⟩ := hI
    exact hP w6 w10 w11
end
abbrev g__law_right : FB := gRight
theorem rd__law_right (Pp : Program) (Pw : World) : ∀ a xs ds C, ds.length + 1 = 1 → g__law_right xs ds C → T__law_right Pp Pw g__law_of (gS 4) g__law_core (gL 4) g__law_books (gOr 10) g__law_almanac g__law_near g__law_toldN (EB a C) (startB N__law_right a xs ds) := by
  rintro a xs ds C - ⟨n, hn, hB, rfl, hC⟩
  refine t1 (w3 := none) (w4 := none) (w5 := none) (w6 := none) (w7 := none) (w9 := none) (w10 := none) (w11 := none) hB (by omega) fun cuts fills zs hc hf pc pf hB => ?_
  refine t2 hc hf fun a3 a4 => ?_
  refine t3 hc hf fun M w3 w5 F => ?_
  refine t4 F ?_
  have hS : ∀ c ∈ M.map (·.1), Fine c := fun c hcm => core_fine hc hf pc pf ((F.mem c).mp hcm)
  have hK0 : Keys cuts fills (M.map (·.1)) := by
    refine ⟨?_, by rw [List.length_map]; exact F.few, fun c hcm => ?_⟩
    · have : (List.replicate cuts.length true ++ List.replicate fills.length false) ∈ allO cuts.length fills.length := (mem_allO _ _ _ (Nat.le_refl _) _).mpr ⟨by simp [cT_append, (ct_repT _).1, (ct_repF _).1], by simp [cF_append, (ct_repT _).2, (ct_repF _).2]⟩
      exact List.ne_nil_of_mem ((F.mem _).mpr (mem_coresS.mpr ⟨_, mem_all.mp this, rfl⟩))
    · obtain ⟨h1, h2⟩ := core_nonneg pc pf ((F.mem c).mp hcm)
      exact ⟨h1, by omega⟩
  refine t5 hK0 hB (by omega) fun zs L1 hB h1 h1l => ?_
  refine t6 hK0 hB (by omega) h1 h1l fun zs L hL hLl hB => ?_
  refine t7 F hc hf pc pf hS hL (by rw [List.length_map]; exact F.few) hLl fun w6 w10 w11 => ?_
  exact ⟨zs, rfl, hC _ (hB.mono (by omega))⟩
theorem rd_law : ∀ ds C, ds.length = 1 → g_law ds C → T_law g__law_box g__law_right (EA C) (startA N_law ds) := rd_Tlaw N_law rfl 2 (by decide)
end Pl
namespace Pl
open PySem PySem.Spec PyProof.Rows L2
def topS (i : Nat) : Stmt := PySem.Challenge.pw_dunebooks_k33_orders_for_cores.main.body.getD i (.Pass ⟨0, 0, 0, 0⟩)
abbrev s_is_number : Stmt := topS 1
abbrev NN_is_number : List Str := [("thing" : Str)]
theorem sc_is_number : FnScope NN_is_number ["thing"] (defScope s_is_number) := ⟨rfl, rfl, rfl, by decide +kernel, rfl, by decide +kernel, by decide +kernel⟩
abbrev s_own_copy : Stmt := topS 2
abbrev NN_own_copy : List Str := [("thing" : Str), ("part" : Str)]
theorem sc_own_copy : FnScope NN_own_copy ["thing"] (defScope s_own_copy) := ⟨rfl, rfl, rfl, by decide +kernel, rfl, by decide +kernel, by decide +kernel⟩
abbrev s_is_wind : Stmt := topS 9
abbrev NN_is_wind : List Str := [("thing" : Str)]
theorem sc_is_wind : FnScope NN_is_wind ["thing"] (defScope s_is_wind) := ⟨rfl, rfl, rfl, by decide +kernel, rfl, by decide +kernel, by decide +kernel⟩
abbrev s_is_almanac : Stmt := topS 11
abbrev NN_is_almanac : List Str := [("thing" : Str), ("wind" : Str)]
theorem sc_is_almanac : FnScope NN_is_almanac ["thing"] (defScope s_is_almanac) := ⟨rfl, rfl, rfl, by decide +kernel, rfl, by decide +kernel, by decide +kernel⟩
abbrev s_gentler_ones : Stmt := topS 13
abbrev NN_gentler_ones : List Str := [("almanac" : Str), ("kept" : Str), ("word" : Str), ("slope" : Str)]
theorem sc_gentler_ones : FnScope NN_gentler_ones ["almanac"] (defScope s_gentler_ones) := ⟨rfl, rfl, rfl, by decide +kernel, rfl, by decide +kernel, by decide +kernel⟩
abbrev s_core : Stmt := topS 14
abbrev NN_core : List Str := [("almanac" : Str), ("kept" : Str), ("wind" : Str)]
theorem sc_core : FnScope NN_core ["almanac"] (defScope s_core) := ⟨rfl, rfl, rfl, by decide +kernel, rfl, by decide +kernel, by decide +kernel⟩
abbrev s_is_core : Stmt := topS 15
abbrev NN_is_core : List Str := [("thing" : Str)]
theorem sc_is_core : FnScope NN_is_core ["thing"] (defScope s_is_core) := ⟨rfl, rfl, rfl, by decide +kernel, rfl, by decide +kernel, by decide +kernel⟩
abbrev s_alike : Stmt := topS 16
abbrev NN_alike : List Str := [("one" : Str), ("other" : Str)]
theorem sc_alike : FnScope NN_alike ["one", "other"] (defScope s_alike) := ⟨rfl, rfl, rfl, by decide +kernel, rfl, by decide +kernel, by decide +kernel⟩
abbrev s_first_to_shift : Stmt := topS 17
abbrev NN_first_to_shift : List Str := [("almanac" : Str), ("slope" : Str), ("word" : Str), ("other" : Str)]
theorem sc_first_to_shift : FnScope NN_first_to_shift ["almanac", "slope"] (defScope s_first_to_shift) := ⟨rfl, rfl, rfl, by decide +kernel, rfl, by decide +kernel, by decide +kernel⟩
abbrev s_almanac_of : Stmt := topS 19
abbrev NN_almanac_of : List Str := [("cuts" : Str), ("fills" : Str), ("order" : Str), ("winds" : Str), ("cut" : Str), ("fill" : Str), ("sign" : Str)]
theorem sc_almanac_of : FnScope NN_almanac_of ["cuts", "fills", "order"] (defScope s_almanac_of) := ⟨rfl, rfl, rfl, by decide +kernel, rfl, by decide +kernel, by decide +kernel⟩
abbrev s_are_contrary : Stmt := topS 20
abbrev NN_are_contrary : List Str := [("one" : Str), ("other" : Str), ("of_cut" : Str), ("of_fill" : Str)]
theorem sc_are_contrary : FnScope NN_are_contrary ["one", "other"] (defScope s_are_contrary) := ⟨rfl, rfl, rfl, by decide +kernel, rfl, by decide +kernel, by decide +kernel⟩
abbrev s_first_clash : Stmt := topS 21
abbrev NN_first_clash : List Str := [("words" : Str), ("one" : Str), ("other" : Str)]
theorem sc_first_clash : FnScope NN_first_clash ["words"] (defScope s_first_clash) := ⟨rfl, rfl, rfl, by decide +kernel, rfl, by decide +kernel, by decide +kernel⟩
abbrev s_refuse_clash : Stmt := topS 22
abbrev NN_refuse_clash : List Str := [("words" : Str), ("places" : Str)]
theorem sc_refuse_clash : FnScope NN_refuse_clash ["words"] (defScope s_refuse_clash) := ⟨rfl, rfl, rfl, by decide +kernel, rfl, by decide +kernel, by decide +kernel⟩
abbrev s_least_ahead : Stmt := topS 23
abbrev NN_least_ahead : List Str := [("words" : Str), ("fill" : Str), ("word" : Str), ("cut" : Str), ("at" : Str)]
theorem sc_least_ahead : FnScope NN_least_ahead ["words", "fill"] (defScope s_least_ahead) := ⟨rfl, rfl, rfl, by decide +kernel, rfl, by decide +kernel, by decide +kernel⟩
abbrev s_most_ahead : Stmt := topS 24
abbrev NN_most_ahead : List Str := [("cuts" : Str), ("words" : Str), ("fill" : Str), ("word" : Str), ("cut" : Str), ("at" : Str)]
theorem sc_most_ahead : FnScope NN_most_ahead ["cuts", "words", "fill"] (defScope s_most_ahead) := ⟨rfl, rfl, rfl, by decide +kernel, rfl, by decide +kernel, by decide +kernel⟩
abbrev s_bounds : Stmt := topS 25
abbrev NN_bounds : List Str := [("cuts" : Str), ("fills" : Str), ("words" : Str), ("fill" : Str)]
theorem sc_bounds : FnScope NN_bounds ["cuts", "fills", "words"] (defScope s_bounds) := ⟨rfl, rfl, rfl, by decide +kernel, rfl, by decide +kernel, by decide +kernel⟩
abbrev s_ways_on : Stmt := topS 26
abbrev NN_ways_on : List Str := [("cuts" : Str), ("fills" : Str), ("words" : Str), ("rows" : Str), ("least" : Str), ("most" : Str)]
theorem sc_ways_on : FnScope NN_ways_on ["cuts", "fills", "words"] (defScope s_ways_on) := ⟨rfl, rfl, rfl, by decide +kernel, rfl, by decide +kernel, by decide +kernel⟩
abbrev s_ways_ahead : Stmt := topS 27
abbrev NN_ways_ahead : List Str := [("later" : Str), ("least" : Str), ("most" : Str), ("row" : Str), ("many" : Str), ("cut" : Str)]
theorem sc_ways_ahead : FnScope NN_ways_ahead ["later", "least", "most"] (defScope s_ways_ahead) := ⟨rfl, rfl, rfl, by decide +kernel, rfl, by decide +kernel, by decide +kernel⟩
abbrev s_order_at : Stmt := topS 28
abbrev NN_order_at : List Str := [("cuts" : Str), ("fills" : Str), ("words" : Str), ("number" : Str), ("ways" : Str), ("signs" : Str), ("cut" : Str), ("fill" : Str), ("left" : Str), ("by_cut" : Str)]
theorem sc_order_at : FnScope NN_order_at ["cuts", "fills", "words", "number"] (defScope s_order_at) := ⟨rfl, rfl, rfl, by decide +kernel, rfl, by decide +kernel, by decide +kernel⟩
abbrev s_first_gentle : Stmt := topS 30
abbrev NN_first_gentle : List Str := [("slopes" : Str), ("slope" : Str), ("number" : Str), ("other" : Str)]
theorem sc_first_gentle : FnScope NN_first_gentle ["slopes", "slope"] (defScope s_first_gentle) := ⟨rfl, rfl, rfl, by decide +kernel, rfl, by decide +kernel, by decide +kernel⟩
abbrev s_meetings : Stmt := topS 31
abbrev NN_meetings : List Str := [("cuts" : Str), ("fills" : Str), ("pairs" : Str), ("slope" : Str), ("pair" : Str)]
theorem sc_meetings : FnScope NN_meetings ["cuts", "fills"] (defScope s_meetings) := ⟨rfl, rfl, rfl, by decide +kernel, rfl, by decide +kernel, by decide +kernel⟩
abbrev s_both_words : Stmt := topS 32
abbrev NN_both_words : List Str := [("pair" : Str), ("cut" : Str), ("fill" : Str)]
theorem sc_both_words : FnScope NN_both_words ["pair"] (defScope s_both_words) := ⟨rfl, rfl, rfl, by decide +kernel, rfl, by decide +kernel, by decide +kernel⟩
abbrev s_words_for : Stmt := topS 33
abbrev NN_words_for : List Str := [("cuts" : Str), ("fills" : Str), ("winds" : Str), ("words" : Str), ("pair" : Str), ("by_cut" : Str), ("by_fill" : Str), ("slope" : Str)]
theorem sc_words_for : FnScope NN_words_for ["cuts", "fills", "winds"] (defScope s_words_for) := ⟨rfl, rfl, rfl, by decide +kernel, rfl, by decide +kernel, by decide +kernel⟩
abbrev s_order_for : Stmt := topS 34
abbrev NN_order_for : List Str := [("cuts" : Str), ("fills" : Str), ("core" : Str), ("wind" : Str), ("winds" : Str), ("words" : Str), ("order" : Str)]
theorem sc_order_for : FnScope NN_order_for ["cuts", "fills", "core"] (defScope s_order_for) := ⟨rfl, rfl, rfl, by decide +kernel, rfl, by decide +kernel, by decide +kernel⟩
abbrev s__law_cell_at : Stmt := topS 36
abbrev NN__law_cell_at : List Str := [("_law_script" : Str), ("_law_k" : Str)]
theorem sc__law_cell_at : FnScope NN__law_cell_at ["_law_script", "_law_k"] (defScope s__law_cell_at) := ⟨rfl, rfl, rfl, by decide +kernel, rfl, by decide +kernel, by decide +kernel⟩
abbrev s__law_box : Stmt := topS 37
abbrev NN__law_box : List Str := [("_law_script" : Str), ("_law_k" : Str), ("_law_cell" : Str)]
theorem sc__law_box : FnScope NN__law_box ["_law_script", "_law_k"] (defScope s__law_box) := ⟨rfl, rfl, rfl, by decide +kernel, rfl, by decide +kernel, by decide +kernel⟩
abbrev s__law_take : Stmt := topS 38
abbrev NN__law_take : List Str := [("_law_box_here" : Str), ("_law_size" : Str), ("_law_told_here" : Str), ("_law_once" : Str), ("_law_twice" : Str)]
theorem sc__law_take : FnScope NN__law_take ["_law_box_here", "_law_size"] (defScope s__law_take) := ⟨rfl, rfl, rfl, by decide +kernel, rfl, by decide +kernel, by decide +kernel⟩
abbrev s__law_of : Stmt := topS 39
abbrev NN__law_of : List Str := [("_law_box_here" : Str), ("_law_some" : Str)]
theorem sc__law_of : FnScope NN__law_of ["_law_box_here", "_law_some"] (defScope s__law_of) := ⟨rfl, rfl, rfl, by decide +kernel, rfl, by decide +kernel, by decide +kernel⟩
abbrev s__law_same : Stmt := topS 40
abbrev NN__law_same : List Str := [("_law_told_here" : Str), ("_law_due" : Str), ("_law_one" : Str), ("_law_two" : Str)]
theorem sc__law_same : FnScope NN__law_same ["_law_told_here", "_law_due"] (defScope s__law_same) := ⟨rfl, rfl, rfl, by decide +kernel, rfl, by decide +kernel, by decide +kernel⟩
abbrev s__law_slope : Stmt := topS 41
abbrev NN__law_slope : List Str := [("_law_box_here" : Str)]
theorem sc__law_slope : FnScope NN__law_slope ["_law_box_here"] (defScope s__law_slope) := ⟨rfl, rfl, rfl, by decide +kernel, rfl, by decide +kernel, by decide +kernel⟩
abbrev s__law_core : Stmt := topS 42
abbrev NN__law_core : List Str := [("_law_winds" : Str), ("_law_left" : Str), ("_law_least" : Str), ("_law_word" : Str), ("_law_slope_here" : Str), ("_law_k" : Str), ("_law_wind" : Str)]
theorem sc__law_core : FnScope NN__law_core ["_law_winds"] (defScope s__law_core) := ⟨rfl, rfl, rfl, by decide +kernel, rfl, by decide +kernel, by decide +kernel⟩
abbrev s__law_lists : Stmt := topS 43
abbrev NN__law_lists : List Str := [("_law_thing" : Str), ("_law_one" : Str)]
theorem sc__law_lists : FnScope NN__law_lists ["_law_thing"] (defScope s__law_lists) := ⟨rfl, rfl, rfl, by decide +kernel, rfl, by decide +kernel, by decide +kernel⟩
abbrev s__law_books : Stmt := topS 44
abbrev NN__law_books : List Str := [("_law_box_here" : Str), ("_law_size" : Str), ("_law_cuts" : Str), ("_law_fills" : Str), ("_law_way" : Str), ("_law_slope_here" : Str), ("_law_turn" : Str), ("_law_book" : Str)]
theorem sc__law_books : FnScope NN__law_books ["_law_box_here", "_law_size"] (defScope s__law_books) := ⟨rfl, rfl, rfl, by decide +kernel, rfl, by decide +kernel, by decide +kernel⟩
abbrev s__law_orders : Stmt := topS 45
abbrev NN__law_orders : List Str := [("_law_cuts" : Str), ("_law_fills" : Str), ("_law_text" : Str)]
theorem sc__law_orders : FnScope NN__law_orders ["_law_cuts", "_law_fills"] (defScope s__law_orders) := ⟨rfl, rfl, rfl, by decide +kernel, rfl, by decide +kernel, by decide +kernel⟩
abbrev s__law_almanac : Stmt := topS 46
abbrev NN__law_almanac : List Str := [("_law_cuts" : Str), ("_law_fills" : Str), ("_law_order" : Str), ("_law_left" : Str), ("_law_right_here" : Str), ("_law_told_here" : Str), ("_law_letter" : Str)]
theorem sc__law_almanac : FnScope NN__law_almanac ["_law_cuts", "_law_fills", "_law_order"] (defScope s__law_almanac) := ⟨rfl, rfl, rfl, by decide +kernel, rfl, by decide +kernel, by decide +kernel⟩
abbrev s__law_near : Stmt := topS 47
abbrev NN__law_near : List Str := [("_law_box_here" : Str), ("_law_winds" : Str), ("_law_told_here" : Str), ("_law_way" : Str), ("_law_at" : Str), ("_law_word" : Str), ("_law_slope_here" : Str)]
theorem sc__law_near : FnScope NN__law_near ["_law_box_here", "_law_winds"] (defScope s__law_near) := ⟨rfl, rfl, rfl, by decide +kernel, rfl, by decide +kernel, by decide +kernel⟩
abbrev s__law_told : Stmt := topS 48
abbrev NN__law_told : List Str := [("_law_cuts" : Str), ("_law_fills" : Str), ("_law_winds" : Str), ("_law_found" : Str), ("_law_caught" : Str), ("error" : Str), ("_law_fine" : Str)]
theorem sc__law_told : FnScope NN__law_told ["_law_cuts", "_law_fills", "_law_winds"] (defScope s__law_told) := ⟨rfl, rfl, rfl, by decide +kernel, rfl, by decide +kernel, by decide +kernel⟩
abbrev s__law_right : Stmt := topS 49
abbrev NN__law_right : List Str := [("_law_box_here" : Str), ("_law_cuts" : Str), ("_law_fills" : Str), ("_law_orders_here" : Str), ("_law_firsts" : Str), ("_law_order" : Str), ("_law_winds" : Str), ("_law_some" : Str), ("_law_turn" : Str), ("_law_more" : Str), ("_law_due" : Str), ("_law_form" : Str)]
theorem sc__law_right : FnScope NN__law_right ["_law_box_here"] (defScope s__law_right) := ⟨rfl, rfl, rfl, by decide +kernel, rfl, by decide +kernel, by decide +kernel⟩
abbrev s_law : Stmt := topS 50
abbrev NN_law : List Str := [("_law_script" : Str), ("_law_k" : Str), ("_law_box_here" : Str), ("_law_turn" : Str)]
theorem sc_law : FnScope NN_law ["_law_script"] (defScope s_law) := ⟨rfl, rfl, rfl, by decide +kernel, rfl, by decide +kernel, by decide +kernel⟩
abbrev si_Clash : Stmt := inS (topS 4) 0
abbrev si_NoCore : Stmt := inS (topS 6) 0
abbrev si_NoOrder : Stmt := inS (topS 5) 0
set_option maxHeartbeats 4000000 in
structure Tx (K : PySem.W.Frag) (mg : Str → Option Value) where
  f_is_number : Addr
  fd_is_number : FuncData
  F_is_number : Fun K "is_number" "is_number" s_is_number f_is_number fd_is_number
  m_is_number : mg "is_number" = some (.ref f_is_number)
  b_is_number : L2.Binds K fd_is_number ["thing"] []
  f_own_copy : Addr
  fd_own_copy : FuncData
  F_own_copy : Fun K "own_copy" "own_copy" s_own_copy f_own_copy fd_own_copy
  m_own_copy : mg "own_copy" = some (.ref f_own_copy)
  b_own_copy : L2.Binds K fd_own_copy ["thing"] []
  f_is_wind : Addr
  fd_is_wind : FuncData
  F_is_wind : Fun K "is_wind" "is_wind" s_is_wind f_is_wind fd_is_wind
  m_is_wind : mg "is_wind" = some (.ref f_is_wind)
  b_is_wind : L2.Binds K fd_is_wind ["thing"] []
  f_is_almanac : Addr
  fd_is_almanac : FuncData
  F_is_almanac : Fun K "is_almanac" "is_almanac" s_is_almanac f_is_almanac fd_is_almanac
  m_is_almanac : mg "is_almanac" = some (.ref f_is_almanac)
  b_is_almanac : L2.Binds K fd_is_almanac ["thing"] []
  f_gentler_ones : Addr
  fd_gentler_ones : FuncData
  F_gentler_ones : Fun K "gentler_ones" "gentler_ones" s_gentler_ones f_gentler_ones fd_gentler_ones
  m_gentler_ones : mg "gentler_ones" = some (.ref f_gentler_ones)
  b_gentler_ones : L2.Binds K fd_gentler_ones ["almanac"] []
  f_core : Addr
  fd_core : FuncData
  F_core : Fun K "core" "core" s_core f_core fd_core
  m_core : mg "core" = some (.ref f_core)
  b_core : L2.Binds K fd_core ["almanac"] []
  f_is_core : Addr
  fd_is_core : FuncData
  F_is_core : Fun K "is_core" "is_core" s_is_core f_is_core fd_is_core
  m_is_core : mg "is_core" = some (.ref f_is_core)
  b_is_core : L2.Binds K fd_is_core ["thing"] []
  f_alike : Addr
  fd_alike : FuncData
  F_alike : Fun K "alike" "alike" s_alike f_alike fd_alike
  m_alike : mg "alike" = some (.ref f_alike)
  b_alike : L2.Binds K fd_alike ["one", "other"] []
  f_first_to_shift : Addr
  fd_first_to_shift : FuncData
  F_first_to_shift : Fun K "first_to_shift" "first_to_shift" s_first_to_shift f_first_to_shift fd_first_to_shift
  m_first_to_shift : mg "first_to_shift" = some (.ref f_first_to_shift)
  b_first_to_shift : L2.Binds K fd_first_to_shift ["almanac", "slope"] []
  f_almanac_of : Addr
  fd_almanac_of : FuncData
  F_almanac_of : Fun K "almanac_of" "almanac_of" s_almanac_of f_almanac_of fd_almanac_of
  m_almanac_of : mg "almanac_of" = some (.ref f_almanac_of)
  b_almanac_of : L2.Binds K fd_almanac_of ["cuts", "fills", "order"] []
  f_are_contrary : Addr
  fd_are_contrary : FuncData
  F_are_contrary : Fun K "are_contrary" "are_contrary" s_are_contrary f_are_contrary fd_are_contrary
  m_are_contrary : mg "are_contrary" = some (.ref f_are_contrary)
  b_are_contrary : L2.Binds K fd_are_contrary ["one", "other"] []
  f_first_clash : Addr
  fd_first_clash : FuncData
  F_first_clash : Fun K "first_clash" "first_clash" s_first_clash f_first_clash fd_first_clash
  m_first_clash : mg "first_clash" = some (.ref f_first_clash)
  b_first_clash : L2.Binds K fd_first_clash ["words"] []
  f_refuse_clash : Addr
  fd_refuse_clash : FuncData
  F_refuse_clash : Fun K "refuse_clash" "refuse_clash" s_refuse_clash f_refuse_clash fd_refuse_clash
  m_refuse_clash : mg "refuse_clash" = some (.ref f_refuse_clash)
  b_refuse_clash : L2.Binds K fd_refuse_clash ["words"] []
  f_least_ahead : Addr
  fd_least_ahead : FuncData
  F_least_ahead : Fun K "least_ahead" "least_ahead" s_least_ahead f_least_ahead fd_least_ahead
  m_least_ahead : mg "least_ahead" = some (.ref f_least_ahead)
  b_least_ahead : L2.Binds K fd_least_ahead ["words", "fill"] []
  f_most_ahead : Addr
  fd_most_ahead : FuncData
  F_most_ahead : Fun K "most_ahead" "most_ahead" s_most_ahead f_most_ahead fd_most_ahead
  m_most_ahead : mg "most_ahead" = some (.ref f_most_ahead)
  b_most_ahead : L2.Binds K fd_most_ahead ["cuts", "words", "fill"] []
  f_bounds : Addr
  fd_bounds : FuncData
  F_bounds : Fun K "bounds" "bounds" s_bounds f_bounds fd_bounds
  m_bounds : mg "bounds" = some (.ref f_bounds)
  b_bounds : L2.Binds K fd_bounds ["cuts", "fills", "words"] []
  f_ways_on : Addr
  fd_ways_on : FuncData
  F_ways_on : Fun K "ways_on" "ways_on" s_ways_on f_ways_on fd_ways_on
  m_ways_on : mg "ways_on" = some (.ref f_ways_on)
  b_ways_on : L2.Binds K fd_ways_on ["cuts", "fills", "words"] []
  f_ways_ahead : Addr
  fd_ways_ahead : FuncData
  F_ways_ahead : Fun K "ways_ahead" "ways_ahead" s_ways_ahead f_ways_ahead fd_ways_ahead
  m_ways_ahead : mg "ways_ahead" = some (.ref f_ways_ahead)
  b_ways_ahead : L2.Binds K fd_ways_ahead ["later", "least", "most"] []
  f_order_at : Addr
  fd_order_at : FuncData
  F_order_at : Fun K "order_at" "order_at" s_order_at f_order_at fd_order_at
  m_order_at : mg "order_at" = some (.ref f_order_at)
  b_order_at : L2.Binds K fd_order_at ["cuts", "fills", "words", "number"] []
  f_first_gentle : Addr
  fd_first_gentle : FuncData
  F_first_gentle : Fun K "first_gentle" "first_gentle" s_first_gentle f_first_gentle fd_first_gentle
  m_first_gentle : mg "first_gentle" = some (.ref f_first_gentle)
  b_first_gentle : L2.Binds K fd_first_gentle ["slopes", "slope"] []
  f_meetings : Addr
  fd_meetings : FuncData
  F_meetings : Fun K "meetings" "meetings" s_meetings f_meetings fd_meetings
  m_meetings : mg "meetings" = some (.ref f_meetings)
  b_meetings : L2.Binds K fd_meetings ["cuts", "fills"] []
  f_both_words : Addr
  fd_both_words : FuncData
  F_both_words : Fun K "both_words" "both_words" s_both_words f_both_words fd_both_words
  m_both_words : mg "both_words" = some (.ref f_both_words)
  b_both_words : L2.Binds K fd_both_words ["pair"] []
  f_words_for : Addr
  fd_words_for : FuncData
  F_words_for : Fun K "words_for" "words_for" s_words_for f_words_for fd_words_for
  m_words_for : mg "words_for" = some (.ref f_words_for)
  b_words_for : L2.Binds K fd_words_for ["cuts", "fills", "winds"] []
  f_order_for : Addr
  fd_order_for : FuncData
  F_order_for : Fun K "order_for" "order_for" s_order_for f_order_for fd_order_for
  m_order_for : mg "order_for" = some (.ref f_order_for)
  b_order_for : L2.Binds K fd_order_for ["cuts", "fills", "core"] []
  f__law_cell_at : Addr
  fd__law_cell_at : FuncData
  F__law_cell_at : Fun K "_law_cell_at" "_law_cell_at" s__law_cell_at f__law_cell_at fd__law_cell_at
  m__law_cell_at : mg "_law_cell_at" = some (.ref f__law_cell_at)
  b__law_cell_at : L2.Binds K fd__law_cell_at ["_law_script", "_law_k"] []
  f__law_box : Addr
  fd__law_box : FuncData
  F__law_box : Fun K "_law_box" "_law_box" s__law_box f__law_box fd__law_box
  m__law_box : mg "_law_box" = some (.ref f__law_box)
  b__law_box : L2.Binds K fd__law_box ["_law_script", "_law_k"] []
  f__law_take : Addr
  fd__law_take : FuncData
  F__law_take : Fun K "_law_take" "_law_take" s__law_take f__law_take fd__law_take
  m__law_take : mg "_law_take" = some (.ref f__law_take)
  b__law_take : L2.Binds K fd__law_take ["_law_box_here", "_law_size"] []
  f__law_of : Addr
  fd__law_of : FuncData
  F__law_of : Fun K "_law_of" "_law_of" s__law_of f__law_of fd__law_of
  m__law_of : mg "_law_of" = some (.ref f__law_of)
  b__law_of : L2.Binds K fd__law_of ["_law_box_here", "_law_some"] []
  f__law_same : Addr
  fd__law_same : FuncData
  F__law_same : Fun K "_law_same" "_law_same" s__law_same f__law_same fd__law_same
  m__law_same : mg "_law_same" = some (.ref f__law_same)
  b__law_same : L2.Binds K fd__law_same ["_law_told_here", "_law_due"] []
  f__law_slope : Addr
  fd__law_slope : FuncData
  F__law_slope : Fun K "_law_slope" "_law_slope" s__law_slope f__law_slope fd__law_slope
  m__law_slope : mg "_law_slope" = some (.ref f__law_slope)
  b__law_slope : L2.Binds K fd__law_slope ["_law_box_here"] []
  f__law_core : Addr
  fd__law_core : FuncData
  F__law_core : Fun K "_law_core" "_law_core" s__law_core f__law_core fd__law_core
  m__law_core : mg "_law_core" = some (.ref f__law_core)
  b__law_core : L2.Binds K fd__law_core ["_law_winds"] []
  f__law_lists : Addr
  fd__law_lists : FuncData
  F__law_lists : Fun K "_law_lists" "_law_lists" s__law_lists f__law_lists fd__law_lists
  m__law_lists : mg "_law_lists" = some (.ref f__law_lists)
  b__law_lists : L2.Binds K fd__law_lists ["_law_thing"] []
  f__law_books : Addr
  fd__law_books : FuncData
  F__law_books : Fun K "_law_books" "_law_books" s__law_books f__law_books fd__law_books
  m__law_books : mg "_law_books" = some (.ref f__law_books)
  b__law_books : L2.Binds K fd__law_books ["_law_box_here", "_law_size"] []
  f__law_orders : Addr
  fd__law_orders : FuncData
  F__law_orders : Fun K "_law_orders" "_law_orders" s__law_orders f__law_orders fd__law_orders
  m__law_orders : mg "_law_orders" = some (.ref f__law_orders)
  b__law_orders : L2.Binds K fd__law_orders ["_law_cuts", "_law_fills"] []
  f__law_almanac : Addr
  fd__law_almanac : FuncData
  F__law_almanac : Fun K "_law_almanac" "_law_almanac" s__law_almanac f__law_almanac fd__law_almanac
  m__law_almanac : mg "_law_almanac" = some (.ref f__law_almanac)
  b__law_almanac : L2.Binds K fd__law_almanac ["_law_cuts", "_law_fills", "_law_order"] []
  f__law_near : Addr
  fd__law_near : FuncData
  F__law_near : Fun K "_law_near" "_law_near" s__law_near f__law_near fd__law_near
  m__law_near : mg "_law_near" = some (.ref f__law_near)
  b__law_near : L2.Binds K fd__law_near ["_law_box_here", "_law_winds"] []
  f__law_told : Addr
  fd__law_told : FuncData
  F__law_told : Fun K "_law_told" "_law_told" s__law_told f__law_told fd__law_told
  m__law_told : mg "_law_told" = some (.ref f__law_told)
  b__law_told : L2.Binds K fd__law_told ["_law_cuts", "_law_fills", "_law_winds"] []
  f__law_right : Addr
  fd__law_right : FuncData
  F__law_right : Fun K "_law_right" "_law_right" s__law_right f__law_right fd__law_right
  m__law_right : mg "_law_right" = some (.ref f__law_right)
  b__law_right : L2.Binds K fd__law_right ["_law_box_here"] []
  f_law : Addr
  fd_law : FuncData
  F_law : Fun K "law" "law" s_law f_law fd_law
  m_law : mg "law" = some (.ref f_law)
  b_law : L2.Binds K fd_law ["_law_script"] []
  C_Clash : Addr
  x_Clash : XCl K mg "Clash" C_Clash
  fI_Clash : Addr
  fdI_Clash : FuncData
  iC_Clash : PySem.W.findIn K (.ref C_Clash) "__init__" = some (some (.ref fI_Clash))
  tI_Clash : PySem.W.typeIn K (.ref fI_Clash) = some (.type "function")
  FI_Clash : Fun K "__init__" "Clash.__init__" si_Clash fI_Clash fdI_Clash
  bI_Clash : L2.Binds K fdI_Clash ["self", "places"] []
  vI_Clash : PySem.W.findCls K (.type "ValueError") (.type "type") "__init__" = some (.val (.builtin "ValueError.__init__"))
  C_NoCore : Addr
  x_NoCore : XCl K mg "NoCore" C_NoCore
  fI_NoCore : Addr
  fdI_NoCore : FuncData
  iC_NoCore : PySem.W.findIn K (.ref C_NoCore) "__init__" = some (some (.ref fI_NoCore))
  tI_NoCore : PySem.W.typeIn K (.ref fI_NoCore) = some (.type "function")
  FI_NoCore : Fun K "__init__" "NoCore.__init__" si_NoCore fI_NoCore fdI_NoCore
  bI_NoCore : L2.Binds K fdI_NoCore ["self", "core"] []
  vI_NoCore : PySem.W.findCls K (.type "LookupError") (.type "type") "__init__" = some (.val (.builtin "LookupError.__init__"))
  C_NoOrder : Addr
  x_NoOrder : XCl K mg "NoOrder" C_NoOrder
  fI_NoOrder : Addr
  fdI_NoOrder : FuncData
  iC_NoOrder : PySem.W.findIn K (.ref C_NoOrder) "__init__" = some (some (.ref fI_NoOrder))
  tI_NoOrder : PySem.W.typeIn K (.ref fI_NoOrder) = some (.type "function")
  FI_NoOrder : Fun K "__init__" "NoOrder.__init__" si_NoOrder fI_NoOrder fdI_NoOrder
  bI_NoOrder : L2.Binds K fdI_NoOrder ["self", "number"] []
  vI_NoOrder : PySem.W.findCls K (.type "LookupError") (.type "type") "__init__" = some (.val (.builtin "LookupError.__init__"))
  C_TooMany : Addr
  x_TooMany : XCl K mg "TooMany" C_TooMany
  z_IndexError : mg "IndexError" = none
  z_KeyError : mg "KeyError" = none
  z_LookupError : mg "LookupError" = none
  z_ValueError : mg "ValueError" = none
  z_abs : mg "abs" = none
  z_all : mg "all" = none
  z_bool : mg "bool" = none
  z_enumerate : mg "enumerate" = none
  z_int : mg "int" = none
  z_isinstance : mg "isinstance" = none
  z_len : mg "len" = none
  z_list : mg "list" = none
  z_max : mg "max" = none
  z_min : mg "min" = none
  z_range : mg "range" = none
  z_reversed : mg "reversed" = none
  z_sorted : mg "sorted" = none
  z_str : mg "str" = none
  z_tuple : mg "tuple" = none
  z_zip : mg "zip" = none
section
variable {P : Program} {w : World} {K : PySem.W.Frag} {mg : Str → Option Value} {base : Heap} (Z : Tx K mg)
include Z
set_option maxHeartbeats 4000000 in
theorem bd_is_number {k : Nat} : ∀ (cdv : Value) (A : Around) (outer : List Env) (s : Shared) (H : Hp) (E : XK), Room k (A.deeper (envOfC "is_number" (defScope s_is_number) s.heap.objs.size Z.f_is_number cdv)) → ∃ t, PPSs (cxOf CX0 P w K mg base NN_is_number "is_number" (defScope s_is_number) Z.f_is_number cdv A outer s H E).nox (defBody s_is_number) t (T_is_number) :=
  fun cdv A outer s H E hr => ⟨_, (ppss_one (pps_ret (ppc_val (ppe_and (ppe_isi isT_int (by rfl) Z.z_isinstance (by rfl) Z.z_int (ppe_var 0)) (ppe_one (ppe_not (ppe_isi isT_bool (by rfl) Z.z_isinstance (by rfl) Z.z_bool (ppe_var 0))))))))⟩
set_option maxHeartbeats 4000000 in
theorem bd_own_copy {k : Nat} {g_own_copy : FA} (O_own_copy : FnOk P w K mg base CX0 k Z.f_own_copy Z.fd_own_copy [("thing" : Str)] (spA K 1 g_own_copy)) : ∀ (cdv : Value) (A : Around) (outer : List Env) (s : Shared) (H : Hp) (E : XK), Room k (A.deeper (envOfC "own_copy" (defScope s_own_copy) s.heap.objs.size Z.f_own_copy cdv)) → ∃ t, PPSs (cxOf CX0 P w K mg base NN_own_copy "own_copy" (defScope s_own_copy) Z.f_own_copy cdv A outer s H E).nox (defBody s_own_copy) t (T_own_copy g_own_copy) :=
  fun cdv A outer s H E hr => ⟨_, (ppss_cons (pps_if (ppt_val (ppe_isi isT_list (by rfl) Z.z_isinstance (by rfl) Z.z_list (ppe_var 0)))
    (ppss_one (pps_ret (ppc_lcL (own := [("part", 1)]) rfl sc_own_copy.nd (ppi_seq (ppe_var 0)) (blkOk_by (N := NN_own_copy) (sc := defScope s_own_copy) (by decide +kernel)) (fun _ _ _ _ _ => ((ptg_name (i := 1) sc_own_copy.nd)).lift) (fun _ _ _ _ _ => (ppts_nil).lift) (fun _ _ _ _ _ => ((ppe_frz (ppc_callA O_own_copy hr (by rfl) Z.m_own_copy Z.F_own_copy.kp Z.b_own_copy (ppa_cons (ppe_var 1) ppa_nil)))).lift))))
    ppss_nil)
    (ppss_cons (pps_if (ppt_val (ppe_isi isT_tuple (by rfl) Z.z_isinstance (by rfl) Z.z_tuple (ppe_var 0)))
    (ppss_one (pps_ret (ppc_val (ppe_callTy call_tuple_of cp_tup (by rfl) Z.z_tuple (by decide +kernel) (ppa_cons (ppe_lcL (own := [("part", 1)]) rfl sc_own_copy.nd (ppi_seq (ppe_var 0)) (blkOk_by (N := NN_own_copy) (sc := defScope s_own_copy) (by decide +kernel)) (fun _ _ _ _ _ => ((ptg_name (i := 1) sc_own_copy.nd)).lift) (fun _ _ _ _ _ => (ppts_nil).lift) (fun _ _ _ _ _ => ((ppe_frz (ppc_callA O_own_copy hr (by rfl) Z.m_own_copy Z.F_own_copy.kp Z.b_own_copy (ppa_cons (ppe_var 1) ppa_nil)))).lift)) ppa_nil)))))
    ppss_nil)
    (ppss_one (pps_ret (ppc_move 0)))))⟩
set_option maxHeartbeats 4000000 in
theorem bd_is_wind {k : Nat} {g_is_number : FA} (O_is_number : FnOk P w K mg base CX0 k Z.f_is_number Z.fd_is_number [("thing" : Str)] (spA K 1 g_is_number)) : ∀ (cdv : Value) (A : Around) (outer : List Env) (s : Shared) (H : Hp) (E : XK), Room k (A.deeper (envOfC "is_wind" (defScope s_is_wind) s.heap.objs.size Z.f_is_wind cdv)) → ∃ t, PPSs (cxOf CX0 P w K mg base NN_is_wind "is_wind" (defScope s_is_wind) Z.f_is_wind cdv A outer s H E).nox (defBody s_is_wind) t (T_is_wind g_is_number) :=
  fun cdv A outer s H E hr => ⟨_, (ppss_cons (pps_if (PPW.ppt (ppw_or (ppt_not (ppt_val (ppe_isi isT_tuple (by rfl) Z.z_isinstance (by rfl) Z.z_tuple (ppe_var 0)))) (ppw_or1 (ppt_cmp (cm_ne (hu64 hr)) (ppe_lenO 0 (by rfl) Z.z_len) ppe_int (nomark _)))))
    (ppss_one (pps_ret (ppc_val ppe_bl)))
    ppss_nil)
    (ppss_one (pps_ret (ppc_val (ppe_and (ppe_cmp (cm_inT (hu65 hr)) (ppe_ixO 0 ppe_int) (ppe_tup (ppa_cons ppe_str (ppa_cons ppe_str ppa_nil))) rfl) (ppe_and (ppe_frz (ppc_callA O_is_number hr (by rfl) Z.m_is_number Z.F_is_number.kp Z.b_is_number (ppa_cons (ppe_ixO 0 ppe_int) ppa_nil))) (ppe_one (ppe_cmp cm_ge (ppe_ixO 0 ppe_int) ppe_int (nomark _)))))))))⟩
set_option maxHeartbeats 4000000 in
theorem bd_is_almanac {k : Nat} {g_is_wind : FA} (O_is_wind : FnOk P w K mg base CX0 k Z.f_is_wind Z.fd_is_wind [("thing" : Str)] (spA K 1 g_is_wind)) : ∀ (cdv : Value) (A : Around) (outer : List Env) (s : Shared) (H : Hp) (E : XK), Room k (A.deeper (envOfC "is_almanac" (defScope s_is_almanac) s.heap.objs.size Z.f_is_almanac cdv)) → ∃ t, PPSs (cxOf CX0 P w K mg base NN_is_almanac "is_almanac" (defScope s_is_almanac) Z.f_is_almanac cdv A outer s H E).nox (defBody s_is_almanac) t (T_is_almanac g_is_wind) :=
  fun cdv A outer s H E hr => ⟨_, (ppss_one (pps_ret (ppc_val (ppe_and (ppe_isi isT_list (by rfl) Z.z_isinstance (by rfl) Z.z_list (ppe_var 0)) (ppe_one (ppe_callB (cr_all rfl) cp_all (by rfl) Z.z_all (by decide +kernel) (ppa_cons (ppe_lcL (own := [("wind", 1)]) rfl sc_is_almanac.nd (ppi_seq (ppe_var 0)) (blkOk_by (N := NN_is_almanac) (sc := defScope s_is_almanac) (by decide +kernel)) (fun _ _ _ _ _ => ((ptg_name (i := 1) sc_is_almanac.nd)).lift) (fun _ _ _ _ _ => (ppts_nil).lift) (fun _ _ _ _ _ => ((ppe_frz (ppc_callA O_is_wind hr (by rfl) Z.m_is_wind Z.F_is_wind.kp Z.b_is_wind (ppa_cons (ppe_var 1) ppa_nil)))).lift)) ppa_nil)))))))⟩
set_option maxHeartbeats 4000000 in
theorem bd_gentler_ones {k : Nat} : ∀ (cdv : Value) (A : Around) (outer : List Env) (s : Shared) (H : Hp) (E : XK), Room k (A.deeper (envOfC "gentler_ones" (defScope s_gentler_ones) s.heap.objs.size Z.f_gentler_ones cdv)) → ∃ t, PPSs (cxOf CX0 P w K mg base NN_gentler_ones "gentler_ones" (defScope s_gentler_ones) Z.f_gentler_ones cdv A outer s H E).nox (defBody s_gentler_ones) t (T_gentler_ones) :=
  fun cdv A outer s H E hr => ⟨_, (ppss_cons (pps_set (i := 1) sc_gentler_ones.nd (ppc_lst ppa_nil))
    (ppss_cons (pps_for PassesOwn.never rfl (ppi_seq (ppe_var 0)) (ptg_tup (n := 2) rfl (ptgs_cons (ptg_name (i := 2) sc_gentler_ones.nd) (ptgs_cons (ptg_name (i := 3) sc_gentler_ones.nd) ptgs_nil)))
    (ppss_one (pps_if (PPW.ppt (ppw_or (ppt_peek (ppt_cmp (cm_eq (hu64 hr)) (ppe_var 1) (ppe_lst ppa_nil) (nomark _))) (ppw_or1 (ppt_cmp cm_lt (ppe_var 3) (ppe_ix (ppe_ixO 1 (ppe_neg ppe_int)) ppe_int) (nomark _)))))
    (ppss_one (pps_append 1 (ppe_tup (ppa_cons (ppe_var 2) (ppa_cons (ppe_var 3) ppa_nil)))))
    ppss_nil)))
    (ppss_one (pps_ret (ppc_move 1)))))⟩
set_option maxHeartbeats 4000000 in
theorem bd_core {k : Nat} {g_gentler_ones : FA} (O_gentler_ones : FnOk P w K mg base CX0 k Z.f_gentler_ones Z.fd_gentler_ones [("almanac" : Str)] (spA K 1 g_gentler_ones)) : ∀ (cdv : Value) (A : Around) (outer : List Env) (s : Shared) (H : Hp) (E : XK), Room k (A.deeper (envOfC "core" (defScope s_core) s.heap.objs.size Z.f_core cdv)) → ∃ t, PPSs (cxOf CX0 P w K mg base NN_core "core" (defScope s_core) Z.f_core cdv A outer s H E).nox (defBody s_core) t (T_core g_gentler_ones) :=
  fun cdv A outer s H E hr => ⟨_, (ppss_cons (pps_set (i := 1) sc_core.nd (ppc_lst ppa_nil))
    (ppss_cons (pps_for PassesOwn.never rfl (ppi_seq (ppe_frz (ppc_callA O_gentler_ones hr (by rfl) Z.m_gentler_ones Z.F_gentler_ones.kp Z.b_gentler_ones (ppa_cons (ppe_var 0) ppa_nil)))) (ptg_name (i := 2) sc_core.nd)
    (ppss_cons (pps_if (PPW.ppt (ppw_and (ppt_peek (ppt_cmp (cm_ne (hu64 hr)) (ppe_var 1) (ppe_lst ppa_nil) (nomark _))) (ppw_and1 (ppt_cmp (cm_eq (hu64 hr)) (ppe_ix (ppe_ixO 1 (ppe_neg ppe_int)) ppe_int) (ppe_ixO 2 ppe_int) (nomark _)))))
    (ppss_one (pps_expr (ppe_pop0 1)))
    ppss_nil)
    (ppss_one (pps_append 1 (ppe_var 2)))))
    (ppss_one (pps_ret (ppc_move 1)))))⟩
set_option maxHeartbeats 4000000 in
theorem bd_is_core {k : Nat} {g_is_almanac : FA} (O_is_almanac : FnOk P w K mg base CX0 k Z.f_is_almanac Z.fd_is_almanac [("thing" : Str)] (spA K 1 g_is_almanac)) {g_core : FA} (O_core : FnOk P w K mg base CX0 k Z.f_core Z.fd_core [("almanac" : Str)] (spA K 1 g_core)) : ∀ (cdv : Value) (A : Around) (outer : List Env) (s : Shared) (H : Hp) (E : XK), Room k (A.deeper (envOfC "is_core" (defScope s_is_core) s.heap.objs.size Z.f_is_core cdv)) → ∃ t, PPSs (cxOf CX0 P w K mg base NN_is_core "is_core" (defScope s_is_core) Z.f_is_core cdv A outer s H E).nox (defBody s_is_core) t (T_is_core g_is_almanac g_core) :=
  fun cdv A outer s H E hr => ⟨_, (ppss_one (pps_ret (ppc_val (ppe_and (ppe_frz (ppc_callA O_is_almanac hr (by rfl) Z.m_is_almanac Z.F_is_almanac.kp Z.b_is_almanac (ppa_cons (ppe_var 0) ppa_nil))) (ppe_one (ppe_cmp (cm_eq (hu64 hr)) (ppe_frz (ppc_callA O_core hr (by rfl) Z.m_core Z.F_core.kp Z.b_core (ppa_cons (ppe_var 0) ppa_nil))) (ppe_var 0) (nomark _)))))))⟩
set_option maxHeartbeats 4000000 in
theorem bd_alike {k : Nat} {g_core : FA} (O_core : FnOk P w K mg base CX0 k Z.f_core Z.fd_core [("almanac" : Str)] (spA K 1 g_core)) : ∀ (cdv : Value) (A : Around) (outer : List Env) (s : Shared) (H : Hp) (E : XK), Room k (A.deeper (envOfC "alike" (defScope s_alike) s.heap.objs.size Z.f_alike cdv)) → ∃ t, PPSs (cxOf CX0 P w K mg base NN_alike "alike" (defScope s_alike) Z.f_alike cdv A outer s H E).nox (defBody s_alike) t (T_alike g_core) :=
  fun cdv A outer s H E hr => ⟨_, (ppss_one (pps_ret (ppc_val (ppe_cmp (cm_eq (hu64 hr)) (ppe_frz (ppc_callA O_core hr (by rfl) Z.m_core Z.F_core.kp Z.b_core (ppa_cons (ppe_var 0) ppa_nil))) (ppe_frz (ppc_callA O_core hr (by rfl) Z.m_core Z.F_core.kp Z.b_core (ppa_cons (ppe_var 1) ppa_nil))) (nomark _)))))⟩
set_option maxHeartbeats 4000000 in
theorem bd_first_to_shift {k : Nat} : ∀ (cdv : Value) (A : Around) (outer : List Env) (s : Shared) (H : Hp) (E : XK), Room k (A.deeper (envOfC "first_to_shift" (defScope s_first_to_shift) s.heap.objs.size Z.f_first_to_shift cdv)) → ∃ t, PPSs (cxOf CX0 P w K mg base NN_first_to_shift "first_to_shift" (defScope s_first_to_shift) Z.f_first_to_shift cdv A outer s H E).nox (defBody s_first_to_shift) t (T_first_to_shift) :=
  fun cdv A outer s H E hr => ⟨_, (ppss_cons (pps_for PassesOwn.never rfl (ppi_seq (ppe_var 0)) (ptg_tup (n := 2) rfl (ptgs_cons (ptg_name (i := 2) sc_first_to_shift.nd) (ptgs_cons (ptg_name (i := 3) sc_first_to_shift.nd) ptgs_nil)))
    (ppss_one (pps_if (ppt_cmp cm_le (ppe_var 3) (ppe_var 1) (nomark _))
    (ppss_one (pps_ret (ppc_move 2)))
    ppss_nil)))
    (ppss_one (pps_ret (ppc_val ppe_non))))⟩
set_option maxHeartbeats 4000000 in
theorem bd_almanac_of {k : Nat} : ∀ (cdv : Value) (A : Around) (outer : List Env) (s : Shared) (H : Hp) (E : XK), Room k (A.deeper (envOfC "almanac_of" (defScope s_almanac_of) s.heap.objs.size Z.f_almanac_of cdv)) → ∃ t, PPSs (cxOf CX0 P w K mg base NN_almanac_of "almanac_of" (defScope s_almanac_of) Z.f_almanac_of cdv A outer s H E).nox (defBody s_almanac_of) t (T_almanac_of) :=
  fun cdv A outer s H E hr => ⟨_, (ppss_cons (pps_set (i := 3) sc_almanac_of.nd (ppc_lst ppa_nil))
    (ppss_cons (pps_set (i := 4) sc_almanac_of.nd (ppc_val ppe_int))
    (ppss_cons (pps_set (i := 5) sc_almanac_of.nd (ppc_val ppe_int))
    (ppss_cons (pps_for PassesOwn.never rfl (ppi_str (ppe_var 2)) (ptg_name (i := 6) sc_almanac_of.nd)
    (ppss_one (pps_if (ppt_cmp (cm_eq (hu64 hr)) (ppe_var 6) ppe_str (nomark _))
    (ppss_cons (pps_append 3 (ppe_tup (ppa_cons ppe_str (ppa_cons (ppe_ixO 0 (ppe_var 4)) ppa_nil))))
    (ppss_one (pps_augAdd (i := 4) sc_almanac_of.nd ppe_int)))
    (ppss_cons (pps_append 3 (ppe_tup (ppa_cons ppe_str (ppa_cons (ppe_ixO 1 (ppe_var 5)) ppa_nil))))
    (ppss_one (pps_augAdd (i := 5) sc_almanac_of.nd ppe_int))))))
    (ppss_one (pps_ret (ppc_move 3)))))))⟩
set_option maxHeartbeats 4000000 in
theorem bd_are_contrary {k : Nat} : ∀ (cdv : Value) (A : Around) (outer : List Env) (s : Shared) (H : Hp) (E : XK), Room k (A.deeper (envOfC "are_contrary" (defScope s_are_contrary) s.heap.objs.size Z.f_are_contrary cdv)) → ∃ t, PPSs (cxOf CX0 P w K mg base NN_are_contrary "are_contrary" (defScope s_are_contrary) Z.f_are_contrary cdv A outer s H E).nox (defBody s_are_contrary) t (T_are_contrary) :=
  fun cdv A outer s H E hr => ⟨_, (ppss_cons (pps_if (ppt_cmp (cm_eq (hu64 hr)) (ppe_ixO 0 ppe_int) (ppe_ixO 1 ppe_int) (nomark _))
    (ppss_one (pps_ret (ppc_val ppe_bl)))
    ppss_nil)
    (ppss_cons (pps_asg (ppe_ifExp (ppt_cmp (cm_eq (hu64 hr)) (ppe_ixO 0 ppe_int) ppe_str (nomark _)) (ppe_tup (ppa_cons (ppe_var 0) (ppa_cons (ppe_var 1) ppa_nil))) (ppe_tup (ppa_cons (ppe_var 1) (ppa_cons (ppe_var 0) ppa_nil)))) (ptg_tup (n := 2) rfl (ptgs_cons (ptg_name (i := 2) sc_are_contrary.nd) (ptgs_cons (ptg_name (i := 3) sc_are_contrary.nd) ptgs_nil))))
    (ppss_one (pps_ret (ppc_val (ppe_and (ppe_cmp cm_le (ppe_ixO 3 ppe_int) (ppe_ixO 2 ppe_int) (nomark _)) (ppe_one (ppe_cmp cm_le (ppe_ixO 2 ppe_int) (ppe_ixO 3 ppe_int) (nomark _)))))))))⟩
set_option maxHeartbeats 4000000 in
theorem bd_first_clash {k : Nat} {g_are_contrary : FA} (O_are_contrary : FnOk P w K mg base CX0 k Z.f_are_contrary Z.fd_are_contrary [("one" : Str), ("other" : Str)] (spA K 2 g_are_contrary)) : ∀ (cdv : Value) (A : Around) (outer : List Env) (s : Shared) (H : Hp) (E : XK), Room k (A.deeper (envOfC "first_clash" (defScope s_first_clash) s.heap.objs.size Z.f_first_clash cdv)) → ∃ t, PPSs (cxOf CX0 P w K mg base NN_first_clash "first_clash" (defScope s_first_clash) Z.f_first_clash cdv A outer s H E).nox (defBody s_first_clash) t (T_first_clash g_are_contrary) :=
  fun cdv A outer s H E hr => ⟨_, (ppss_cons (pps_for PassesOwn.never rfl (ppi_range1 (by rfl) Z.z_range (ppa_cons (ppe_lenO 0 (by rfl) Z.z_len) ppa_nil)) (ptg_name (i := 1) sc_first_clash.nd)
    (ppss_one (pps_for PassesOwn.never rfl (ppi_range2 (by rfl) Z.z_range (ppa_cons (ppe_add (ppe_var 1) ppe_int) (ppa_cons (ppe_lenO 0 (by rfl) Z.z_len) ppa_nil))) (ptg_name (i := 2) sc_first_clash.nd)
    (ppss_one (pps_if (ppt_val (ppe_frz (ppc_callA O_are_contrary hr (by rfl) Z.m_are_contrary Z.F_are_contrary.kp Z.b_are_contrary (ppa_cons (ppe_ixO 0 (ppe_var 1)) (ppa_cons (ppe_ixO 0 (ppe_var 2)) ppa_nil)))))
    (ppss_one (pps_ret (ppc_val (ppe_tup (ppa_cons (ppe_var 1) (ppa_cons (ppe_var 2) ppa_nil))))))
    ppss_nil)))))
    (ppss_one (pps_ret (ppc_val ppe_non))))⟩
set_option maxHeartbeats 4000000 in
theorem bd_refuse_clash {k : Nat} {g_first_clash : FA} (O_first_clash : FnOk P w K mg base CX0 k Z.f_first_clash Z.fd_first_clash [("words" : Str)] (spA K 1 g_first_clash)) : ∀ (cdv : Value) (A : Around) (outer : List Env) (s : Shared) (H : Hp) (E : XK), Room k (A.deeper (envOfC "refuse_clash" (defScope s_refuse_clash) s.heap.objs.size Z.f_refuse_clash cdv)) → ∃ t, PPSs (cxOf CX0 P w K mg base NN_refuse_clash "refuse_clash" (defScope s_refuse_clash) Z.f_refuse_clash cdv A outer s H E).nox (defBody s_refuse_clash) t (T_refuse_clash g_first_clash) :=
  fun cdv A outer s H E hr => ⟨_, (ppss_cons (pps_set (i := 1) sc_refuse_clash.nd (ppc_callA O_first_clash hr (by rfl) Z.m_first_clash Z.F_first_clash.kp Z.b_first_clash (ppa_cons (ppe_var 0) ppa_nil)))
    (ppss_one (pps_if (ppt_cmp cm_notN (ppe_var 1) ppe_non (nomark _))
    (ppss_one pps_never)
    ppss_nil)))⟩
set_option maxHeartbeats 4000000 in
theorem bd_least_ahead {k : Nat} : ∀ (cdv : Value) (A : Around) (outer : List Env) (s : Shared) (H : Hp) (E : XK), Room k (A.deeper (envOfC "least_ahead" (defScope s_least_ahead) s.heap.objs.size Z.f_least_ahead cdv)) → ∃ t, PPSs (cxOf CX0 P w K mg base NN_least_ahead "least_ahead" (defScope s_least_ahead) Z.f_least_ahead cdv A outer s H E).nox (defBody s_least_ahead) t (T_least_ahead) :=
  fun cdv A outer s H E hr => ⟨_, (ppss_one (pps_ret (ppc_val (ppe_maxD (by rfl) Z.z_max rfl (hu64 hr) (ppe_lcL (own := [("word", 2), ("cut", 3), ("at", 4)]) rfl sc_least_ahead.nd (ppi_seq (ppe_var 0)) (blkOk_by (N := NN_least_ahead) (sc := defScope s_least_ahead) (by decide +kernel)) (fun _ _ _ _ _ => ((ptg_tup (n := 3) rfl (ptgs_cons (ptg_name (i := 2) sc_least_ahead.nd) (ptgs_cons (ptg_name (i := 3) sc_least_ahead.nd) (ptgs_cons (ptg_name (i := 4) sc_least_ahead.nd) ptgs_nil))))).lift) (fun _ _ _ _ _ => ((ppts_one (PPW.ppt (ppw_and (ppt_cmp (cm_eq (hu64 hr)) (ppe_var 2) ppe_str (nomark _)) (ppw_and1 (ppt_cmp cm_le (ppe_var 4) (ppe_var 1) (nomark _))))))).lift) (fun _ _ _ _ _ => ((ppe_add (ppe_var 3) ppe_int)).lift)) ppe_int))))⟩
set_option maxHeartbeats 4000000 in
theorem bd_most_ahead {k : Nat} : ∀ (cdv : Value) (A : Around) (outer : List Env) (s : Shared) (H : Hp) (E : XK), Room k (A.deeper (envOfC "most_ahead" (defScope s_most_ahead) s.heap.objs.size Z.f_most_ahead cdv)) → ∃ t, PPSs (cxOf CX0 P w K mg base NN_most_ahead "most_ahead" (defScope s_most_ahead) Z.f_most_ahead cdv A outer s H E).nox (defBody s_most_ahead) t (T_most_ahead) :=
  fun cdv A outer s H E hr => ⟨_, (ppss_one (pps_ret (ppc_val (ppe_minD (by rfl) Z.z_min rfl (hu64 hr) (ppe_lcL (own := [("word", 3), ("cut", 4), ("at", 5)]) rfl sc_most_ahead.nd (ppi_seq (ppe_var 1)) (blkOk_by (N := NN_most_ahead) (sc := defScope s_most_ahead) (by decide +kernel)) (fun _ _ _ _ _ => ((ptg_tup (n := 3) rfl (ptgs_cons (ptg_name (i := 3) sc_most_ahead.nd) (ptgs_cons (ptg_name (i := 4) sc_most_ahead.nd) (ptgs_cons (ptg_name (i := 5) sc_most_ahead.nd) ptgs_nil))))).lift) (fun _ _ _ _ _ => ((ppts_one (PPW.ppt (ppw_and (ppt_cmp (cm_eq (hu64 hr)) (ppe_var 3) ppe_str (nomark _)) (ppw_and1 (ppt_cmp cm_ge (ppe_var 5) (ppe_var 2) (nomark _))))))).lift) (fun _ _ _ _ _ => ((ppe_var 4)).lift)) (ppe_lenO 0 (by rfl) Z.z_len)))))⟩
set_option maxHeartbeats 4000000 in
theorem bd_bounds {k : Nat} {g_refuse_clash : FA} (O_refuse_clash : FnOk P w K mg base CX0 k Z.f_refuse_clash Z.fd_refuse_clash [("words" : Str)] (spA K 1 g_refuse_clash)) {g_least_ahead : FA} (O_least_ahead : FnOk P w K mg base CX0 k Z.f_least_ahead Z.fd_least_ahead [("words" : Str), ("fill" : Str)] (spA K 2 g_least_ahead)) {g_most_ahead : FA} (O_most_ahead : FnOk P w K mg base CX0 k Z.f_most_ahead Z.fd_most_ahead [("cuts" : Str), ("words" : Str), ("fill" : Str)] (spA K 3 g_most_ahead)) : ∀ (cdv : Value) (A : Around) (outer : List Env) (s : Shared) (H : Hp) (E : XK), Room k (A.deeper (envOfC "bounds" (defScope s_bounds) s.heap.objs.size Z.f_bounds cdv)) → ∃ t, PPSs (cxOf CX0 P w K mg base NN_bounds "bounds" (defScope s_bounds) Z.f_bounds cdv A outer s H E).nox (defBody s_bounds) t (T_bounds g_refuse_clash g_least_ahead g_most_ahead) :=
  fun cdv A outer s H E hr => ⟨_, (ppss_cons (pps_expr (ppe_frz (ppc_callA O_refuse_clash hr (by rfl) Z.m_refuse_clash Z.F_refuse_clash.kp Z.b_refuse_clash (ppa_cons (ppe_var 2) ppa_nil))))
    (ppss_one (pps_ret (ppc_lcL (own := [("fill", 3)]) rfl sc_bounds.nd (ppi_range1 (by rfl) Z.z_range (ppa_cons (ppe_lenO 1 (by rfl) Z.z_len) ppa_nil)) (blkOk_by (N := NN_bounds) (sc := defScope s_bounds) (by decide +kernel)) (fun _ _ _ _ _ => ((ptg_name (i := 3) sc_bounds.nd)).lift) (fun _ _ _ _ _ => (ppts_nil).lift) (fun _ _ _ _ _ => ((ppe_tup (ppa_cons (ppe_frz (ppc_callA O_least_ahead hr (by rfl) Z.m_least_ahead Z.F_least_ahead.kp Z.b_least_ahead (ppa_cons (ppe_var 2) (ppa_cons (ppe_var 3) ppa_nil)))) (ppa_cons (ppe_frz (ppc_callA O_most_ahead hr (by rfl) Z.m_most_ahead Z.F_most_ahead.kp Z.b_most_ahead (ppa_cons (ppe_var 0) (ppa_cons (ppe_var 2) (ppa_cons (ppe_var 3) ppa_nil))))) ppa_nil)))).lift)))))⟩
set_option maxHeartbeats 4000000 in
theorem bd_ways_on {k : Nat} {g_bounds : FA} (O_bounds : FnOk P w K mg base CX0 k Z.f_bounds Z.fd_bounds [("cuts" : Str), ("fills" : Str), ("words" : Str)] (spA K 3 g_bounds)) {g_ways_ahead : FA} (O_ways_ahead : FnOk P w K mg base CX0 k Z.f_ways_ahead Z.fd_ways_ahead [("later" : Str), ("least" : Str), ("most" : Str)] (spA K 3 g_ways_ahead)) : ∀ (cdv : Value) (A : Around) (outer : List Env) (s : Shared) (H : Hp) (E : XK), Room k (A.deeper (envOfC "ways_on" (defScope s_ways_on) s.heap.objs.size Z.f_ways_on cdv)) → ∃ t, PPSs (cxOf CX0 P w K mg base NN_ways_on "ways_on" (defScope s_ways_on) Z.f_ways_on cdv A outer s H E).nox (defBody s_ways_on) t (T_ways_on g_bounds g_ways_ahead) :=
  fun cdv A outer s H E hr => ⟨_, (ppss_cons (pps_set (i := 3) sc_ways_on.nd (ppc_lst (ppa_cons (ppe_add (ppe_rep (ppe_lst (ppa_cons ppe_int ppa_nil)) (ppe_add (ppe_lenO 0 (by rfl) Z.z_len) ppe_int)) (ppe_lst (ppa_cons ppe_int ppa_nil))) ppa_nil)))
    (ppss_cons (pps_for PassesOwn.never rfl (ppi_seq (ppe_rev (ppe_frz (ppc_callA O_bounds hr (by rfl) Z.m_bounds Z.F_bounds.kp Z.b_bounds (ppa_cons (ppe_var 0) (ppa_cons (ppe_var 1) (ppa_cons (ppe_var 2) ppa_nil))))))) (ptg_tup (n := 2) rfl (ptgs_cons (ptg_name (i := 4) sc_ways_on.nd) (ptgs_cons (ptg_name (i := 5) sc_ways_on.nd) ptgs_nil)))
    (ppss_one (pps_append 3 (ppe_frz (ppc_callA O_ways_ahead hr (by rfl) Z.m_ways_ahead Z.F_ways_ahead.kp Z.b_ways_ahead (ppa_cons (ppe_ixO 3 (ppe_neg ppe_int)) (ppa_cons (ppe_var 4) (ppa_cons (ppe_var 5) ppa_nil))))))))
    (ppss_one (pps_ret (ppc_val (ppe_rev (ppe_var 3)))))))⟩
set_option maxHeartbeats 4000000 in
theorem bd_ways_ahead {k : Nat} : ∀ (cdv : Value) (A : Around) (outer : List Env) (s : Shared) (H : Hp) (E : XK), Room k (A.deeper (envOfC "ways_ahead" (defScope s_ways_ahead) s.heap.objs.size Z.f_ways_ahead cdv)) → ∃ t, PPSs (cxOf CX0 P w K mg base NN_ways_ahead "ways_ahead" (defScope s_ways_ahead) Z.f_ways_ahead cdv A outer s H E).nox (defBody s_ways_ahead) t (T_ways_ahead) :=
  fun cdv A outer s H E hr => ⟨_, (ppss_cons (pps_set (i := 3) sc_ways_ahead.nd (ppc_lst ppa_nil))
    (ppss_cons (pps_set (i := 4) sc_ways_ahead.nd (ppc_val ppe_int))
    (ppss_cons (pps_for PassesOwn.never rfl (ppi_rev (by rfl) Z.z_reversed (by rfl) Z.z_range (ppe_lenO 0 (by rfl) Z.z_len)) (ptg_name (i := 5) sc_ways_ahead.nd)
    (ppss_cons (pps_if (ppt_chain cm_le cm_le (ppe_var 1) (ppe_var 5) (ppe_var 2))
    (ppss_one (pps_augAdd (i := 4) sc_ways_ahead.nd (ppe_ixO 0 (ppe_var 5))))
    ppss_nil)
    (ppss_one (pps_append 3 (ppe_var 4)))))
    (ppss_one (pps_ret (ppc_val (ppe_rev (ppe_var 3))))))))⟩
set_option maxHeartbeats 4000000 in
theorem bd_order_at {k : Nat} {g_ways_on : FA} (O_ways_on : FnOk P w K mg base CX0 k Z.f_ways_on Z.fd_ways_on [("cuts" : Str), ("fills" : Str), ("words" : Str)] (spA K 3 g_ways_on)) : ∀ (cdv : Value) (A : Around) (outer : List Env) (s : Shared) (H : Hp) (E : XK), Room k (A.deeper (envOfC "order_at" (defScope s_order_at) s.heap.objs.size Z.f_order_at cdv)) → ∃ t, PPSs (cxOf CX0 P w K mg base NN_order_at "order_at" (defScope s_order_at) Z.f_order_at cdv A outer s H E).nox (defBody s_order_at) t (T_order_at g_ways_on) :=
  fun cdv A outer s H E hr => ⟨_, (ppss_cons (pps_set (i := 4) sc_order_at.nd (ppc_callA O_ways_on hr (by rfl) Z.m_ways_on Z.F_ways_on.kp Z.b_ways_on (ppa_cons (ppe_var 0) (ppa_cons (ppe_var 1) (ppa_cons (ppe_var 2) ppa_nil)))))
    (ppss_cons (pps_if (ppt_not (ppt_chain cm_le cm_lt ppe_int (ppe_var 3) (ppe_ix (ppe_ixO 4 ppe_int) ppe_int)))
    (ppss_one pps_never)
    ppss_nil)
    (ppss_cons (pps_set (i := 5) sc_order_at.nd (ppc_lst ppa_nil))
    (ppss_cons (pps_set (i := 6) sc_order_at.nd (ppc_val ppe_int))
    (ppss_cons (pps_set (i := 7) sc_order_at.nd (ppc_val ppe_int))
    (ppss_cons (pps_set (i := 8) sc_order_at.nd (ppc_val (ppe_var 3)))
    (ppss_cons (pps_while PassesOwn.never (PPW.ppt (ppw_or (ppt_cmp cm_lt (ppe_var 6) (ppe_lenO 0 (by rfl) Z.z_len) (nomark _)) (ppw_or1 (ppt_cmp cm_lt (ppe_var 7) (ppe_lenO 1 (by rfl) Z.z_len) (nomark _)))))
    (ppss_cons (pps_set (i := 9) sc_order_at.nd (ppc_val (ppe_ix (ppe_ixO 4 (ppe_var 7)) (ppe_add (ppe_var 6) ppe_int))))
    (ppss_one (pps_if (ppt_cmp cm_lt (ppe_var 8) (ppe_var 9) (nomark _))
    (ppss_cons (pps_append 5 ppe_str)
    (ppss_one (pps_augAdd (i := 6) sc_order_at.nd ppe_int)))
    (ppss_cons (pps_append 5 ppe_str)
    (ppss_cons (pps_augAdd (i := 7) sc_order_at.nd ppe_int)
    (ppss_one (pps_augSub (i := 8) sc_order_at.nd (ppe_var 9)))))))))
    (ppss_one (pps_ret (ppc_val (ppe_join ppe_str (ppe_var 5))))))))))))⟩
set_option maxHeartbeats 4000000 in
theorem bd_first_gentle {k : Nat} : ∀ (cdv : Value) (A : Around) (outer : List Env) (s : Shared) (H : Hp) (E : XK), Room k (A.deeper (envOfC "first_gentle" (defScope s_first_gentle) s.heap.objs.size Z.f_first_gentle cdv)) → ∃ t, PPSs (cxOf CX0 P w K mg base NN_first_gentle "first_gentle" (defScope s_first_gentle) Z.f_first_gentle cdv A outer s H E).nox (defBody s_first_gentle) t (T_first_gentle) :=
  fun cdv A outer s H E hr => ⟨_, (ppss_cons (pps_for PassesOwn.never rfl (ppi_e (by rfl) Z.z_enumerate (ppa_cons (ppe_var 0) ppa_nil)) (ptg_tup (n := 2) rfl (ptgs_cons (ptg_name (i := 2) sc_first_gentle.nd) (ptgs_cons (ptg_name (i := 3) sc_first_gentle.nd) ptgs_nil)))
    (ppss_one (pps_if (ppt_cmp cm_le (ppe_var 3) (ppe_var 1) (nomark _))
    (ppss_one (pps_ret (ppc_move 2)))
    ppss_nil)))
    (ppss_one (pps_ret (ppc_val ppe_non))))⟩
set_option maxHeartbeats 4000000 in
theorem bd_meetings {k : Nat} {g_first_gentle : FA} (O_first_gentle : FnOk P w K mg base CX0 k Z.f_first_gentle Z.fd_first_gentle [("slopes" : Str), ("slope" : Str)] (spA K 2 g_first_gentle)) : ∀ (cdv : Value) (A : Around) (outer : List Env) (s : Shared) (H : Hp) (E : XK), Room k (A.deeper (envOfC "meetings" (defScope s_meetings) s.heap.objs.size Z.f_meetings cdv)) → ∃ t, PPSs (cxOf CX0 P w K mg base NN_meetings "meetings" (defScope s_meetings) Z.f_meetings cdv A outer s H E).nox (defBody s_meetings) t (T_meetings g_first_gentle) :=
  fun cdv A outer s H E hr => ⟨_, (ppss_cons (pps_set (i := 2) sc_meetings.nd (ppc_lst ppa_nil))
    (ppss_cons (pps_for PassesOwn.never rfl (ppi_seq (ppe_sortR (by rfl) Z.z_sorted (ppe_lst (ppa_star (ppe_var 0) (ppa_star (ppe_var 1) ppa_nil))))) (ptg_name (i := 3) sc_meetings.nd)
    (ppss_cons (pps_set (i := 4) sc_meetings.nd (ppc_val (ppe_tup (ppa_cons (ppe_frz (ppc_callA O_first_gentle hr (by rfl) Z.m_first_gentle Z.F_first_gentle.kp Z.b_first_gentle (ppa_cons (ppe_var 0) (ppa_cons (ppe_var 3) ppa_nil)))) (ppa_cons (ppe_frz (ppc_callA O_first_gentle hr (by rfl) Z.m_first_gentle Z.F_first_gentle.kp Z.b_first_gentle (ppa_cons (ppe_var 1) (ppa_cons (ppe_var 3) ppa_nil)))) ppa_nil)))))
    (ppss_one (pps_if (PPW.ppt (ppw_and (ppt_cmp (cm_ninT (hu65 hr)) ppe_non (ppe_var 4) rfl) (ppw_and1 (ppt_peek (ppt_cmp (cm_nin (hu65 hr)) (ppe_var 4) (ppe_var 2) rfl)))))
    (ppss_one (pps_append 2 (ppe_var 4)))
    ppss_nil))))
    (ppss_one (pps_ret (ppc_move 2)))))⟩
set_option maxHeartbeats 4000000 in
theorem bd_both_words {k : Nat} : ∀ (cdv : Value) (A : Around) (outer : List Env) (s : Shared) (H : Hp) (E : XK), Room k (A.deeper (envOfC "both_words" (defScope s_both_words) s.heap.objs.size Z.f_both_words cdv)) → ∃ t, PPSs (cxOf CX0 P w K mg base NN_both_words "both_words" (defScope s_both_words) Z.f_both_words cdv A outer s H E).nox (defBody s_both_words) t (T_both_words) :=
  fun cdv A outer s H E hr => ⟨_, (ppss_cons (pps_asg (ppe_var 0) (ptg_tup (n := 2) rfl (ptgs_cons (ptg_name (i := 1) sc_both_words.nd) (ptgs_cons (ptg_name (i := 2) sc_both_words.nd) ptgs_nil))))
    (ppss_one (pps_ret (ppc_val (ppe_tup (ppa_cons (ppe_tup (ppa_cons ppe_str (ppa_cons (ppe_var 1) (ppa_cons (ppe_var 2) ppa_nil)))) (ppa_cons (ppe_tup (ppa_cons ppe_str (ppa_cons (ppe_var 1) (ppa_cons (ppe_var 2) ppa_nil)))) ppa_nil)))))))⟩
set_option maxHeartbeats 4000000 in
theorem bd_words_for {k : Nat} {g_first_to_shift : FA} (O_first_to_shift : FnOk P w K mg base CX0 k Z.f_first_to_shift Z.fd_first_to_shift [("almanac" : Str), ("slope" : Str)] (spA K 2 g_first_to_shift)) {g_meetings : FA} (O_meetings : FnOk P w K mg base CX0 k Z.f_meetings Z.fd_meetings [("cuts" : Str), ("fills" : Str)] (spA K 2 g_meetings)) {g_both_words : FA} (O_both_words : FnOk P w K mg base CX0 k Z.f_both_words Z.fd_both_words [("pair" : Str)] (spA K 1 g_both_words)) : ∀ (cdv : Value) (A : Around) (outer : List Env) (s : Shared) (H : Hp) (E : XK), Room k (A.deeper (envOfC "words_for" (defScope s_words_for) s.heap.objs.size Z.f_words_for cdv)) → ∃ t, PPSs (cxOf CX0 P w K mg base NN_words_for "words_for" (defScope s_words_for) Z.f_words_for cdv A outer s H E).nox (defBody s_words_for) t (T_words_for g_first_to_shift g_meetings g_both_words) :=
  fun cdv A outer s H E hr => ⟨_, (ppss_cons (pps_set (i := 3) sc_words_for.nd (ppc_lst ppa_nil))
    (ppss_cons (pps_for PassesOwn.never rfl (ppi_seq (ppe_frz (ppc_callA O_meetings hr (by rfl) Z.m_meetings Z.F_meetings.kp Z.b_meetings (ppa_cons (ppe_var 0) (ppa_cons (ppe_var 1) ppa_nil))))) (ptg_name (i := 4) sc_words_for.nd)
    (ppss_cons (pps_asg (ppe_frz (ppc_callA O_both_words hr (by rfl) Z.m_both_words Z.F_both_words.kp Z.b_both_words (ppa_cons (ppe_var 4) ppa_nil))) (ptg_tup (n := 2) rfl (ptgs_cons (ptg_name (i := 5) sc_words_for.nd) (ptgs_cons (ptg_name (i := 6) sc_words_for.nd) ptgs_nil))))
    (ppss_cons (pps_set (i := 7) sc_words_for.nd (ppc_val (ppe_callB (call_max2 rfl) cp_max2 (by rfl) Z.z_max (by decide +kernel) (ppa_cons (ppe_ixO 0 (ppe_ixO 4 ppe_int)) (ppa_cons (ppe_ixO 1 (ppe_ixO 4 ppe_int)) ppa_nil)))))
    (ppss_one (pps_append 3 (ppe_ifExp (ppt_cmp (cm_eq (hu64 hr)) (ppe_frz (ppc_callA O_first_to_shift hr (by rfl) Z.m_first_to_shift Z.F_first_to_shift.kp Z.b_first_to_shift (ppa_cons (ppe_var 2) (ppa_cons (ppe_var 7) ppa_nil)))) ppe_str (nomark _)) (ppe_var 5) (ppe_var 6)))))))
    (ppss_one (pps_ret (ppc_move 3)))))⟩
set_option maxHeartbeats 4000000 in
theorem bd_order_for {k : Nat} {g_is_core : FA} (O_is_core : FnOk P w K mg base CX0 k Z.f_is_core Z.fd_is_core [("thing" : Str)] (spA K 1 g_is_core)) {g_alike : FA} (O_alike : FnOk P w K mg base CX0 k Z.f_alike Z.fd_alike [("one" : Str), ("other" : Str)] (spA K 2 g_alike)) {g_almanac_of : FA} (O_almanac_of : FnOk P w K mg base CX0 k Z.f_almanac_of Z.fd_almanac_of [("cuts" : Str), ("fills" : Str), ("order" : Str)] (spA K 3 g_almanac_of)) {g_first_clash : FA} (O_first_clash : FnOk P w K mg base CX0 k Z.f_first_clash Z.fd_first_clash [("words" : Str)] (spA K 1 g_first_clash)) {g_order_at : FA} (O_order_at : FnOk P w K mg base CX0 k Z.f_order_at Z.fd_order_at [("cuts" : Str), ("fills" : Str), ("words" : Str), ("number" : Str)] (spA K 4 g_order_at)) {g_words_for : FA} (O_words_for : FnOk P w K mg base CX0 k Z.f_words_for Z.fd_words_for [("cuts" : Str), ("fills" : Str), ("winds" : Str)] (spA K 3 g_words_for)) : ∀ (cdv : Value) (A : Around) (outer : List Env) (s : Shared) (H : Hp) (E : XK), Room k (A.deeper (envOfC "order_for" (defScope s_order_for) s.heap.objs.size Z.f_order_for cdv)) → ∃ t, PPSs (cxOf CX0 P w K mg base NN_order_for "order_for" (defScope s_order_for) Z.f_order_for cdv A outer s H E).nox (defBody s_order_for) t (T_order_for g_is_core g_alike g_almanac_of g_first_clash g_order_at g_words_for) :=
  fun cdv A outer s H E hr => ⟨_, (ppss_cons (pps_setLcV (i := 4) (own := [("wind", 3)]) rfl sc_order_for.nd (ppi_seq (ppe_var 2)) (blkOk_by (N := NN_order_for) (sc := defScope s_order_for) (by decide +kernel)) (fun _ _ _ _ _ => ((ptg_name (i := 3) sc_order_for.nd)).lift) (fun _ _ _ _ _ => (ppts_nil).lift) (fun _ _ _ _ _ => ((ppe_callTy call_tuple_of cp_tup (by rfl) Z.z_tuple (by decide +kernel) (ppa_cons (ppe_var 3) ppa_nil))).lift))
    (ppss_cons (pps_set (i := 5) sc_order_for.nd (ppc_callA O_words_for hr (by rfl) Z.m_words_for Z.F_words_for.kp Z.b_words_for (ppa_cons (ppe_var 0) (ppa_cons (ppe_var 1) (ppa_cons (ppe_var 4) ppa_nil)))))
    (ppss_cons (pps_if (PPW.ppt (ppw_or (ppt_not (ppt_val (ppe_frz (ppc_callA O_is_core hr (by rfl) Z.m_is_core Z.F_is_core.kp Z.b_is_core (ppa_cons (ppe_var 4) ppa_nil))))) (ppw_or1 (ppt_cmp cm_notN (ppe_frz (ppc_callA O_first_clash hr (by rfl) Z.m_first_clash Z.F_first_clash.kp Z.b_first_clash (ppa_cons (ppe_var 5) ppa_nil))) ppe_non (nomark _)))))
    (ppss_one pps_never)
    ppss_nil)
    (ppss_cons (pps_set (i := 6) sc_order_for.nd (ppc_callA O_order_at hr (by rfl) Z.m_order_at Z.F_order_at.kp Z.b_order_at (ppa_cons (ppe_var 0) (ppa_cons (ppe_var 1) (ppa_cons (ppe_var 5) (ppa_cons ppe_int ppa_nil))))))
    (ppss_cons (pps_if (ppt_not (ppt_val (ppe_frz (ppc_callA O_alike hr (by rfl) Z.m_alike Z.F_alike.kp Z.b_alike (ppa_cons (ppe_frz (ppc_callA O_almanac_of hr (by rfl) Z.m_almanac_of Z.F_almanac_of.kp Z.b_almanac_of (ppa_cons (ppe_var 0) (ppa_cons (ppe_var 1) (ppa_cons (ppe_var 6) ppa_nil))))) (ppa_cons (ppe_var 4) ppa_nil))))))
    (ppss_one pps_never)
    ppss_nil)
    (ppss_one (pps_ret (ppc_move 6))))))))⟩
set_option maxHeartbeats 4000000 in
theorem bd__law_cell_at {k : Nat} : ∀ (cdv : Value) (A : Around) (outer : List Env) (s : Shared) (H : Hp) (E : XK), Room k (A.deeper (envOfC "_law_cell_at" (defScope s__law_cell_at) s.heap.objs.size Z.f__law_cell_at cdv)) → ∃ t, PPSs (cxOf CX0 P w K mg base NN__law_cell_at "_law_cell_at" (defScope s__law_cell_at) Z.f__law_cell_at cdv A outer s H E).nox (defBody s__law_cell_at) t (T__law_cell_at) :=
  fun cdv A outer s H E hr => ⟨_, (ppss_cons (pps_if (ppt_cmp cm_lt (ppe_var 1) (ppe_lenO 0 (by rfl) Z.z_len) (nomark _))
    (ppss_one (pps_ret (ppc_val (ppe_ixO 0 (ppe_var 1)))))
    ppss_nil)
    (ppss_one (pps_ret (ppc_val ppe_int))))⟩
set_option maxHeartbeats 4000000 in
theorem bd__law_box {k : Nat} {g__law_cell_at : FA} (O__law_cell_at : FnOk P w K mg base CX0 k Z.f__law_cell_at Z.fd__law_cell_at [("_law_script" : Str), ("_law_k" : Str)] (spA K 2 g__law_cell_at)) : ∀ (cdv : Value) (A : Around) (outer : List Env) (s : Shared) (H : Hp) (E : XK), Room k (A.deeper (envOfC "_law_box" (defScope s__law_box) s.heap.objs.size Z.f__law_box cdv)) → ∃ t, PPSs (cxOf CX0 P w K mg base NN__law_box "_law_box" (defScope s__law_box) Z.f__law_box cdv A outer s H E).nox (defBody s__law_box) t (T__law_box g__law_cell_at) :=
  fun cdv A outer s H E hr => ⟨_, (ppss_cons (pps_set (i := 2) sc__law_box.nd (ppc_callA O__law_cell_at hr (by rfl) Z.m__law_cell_at Z.F__law_cell_at.kp Z.b__law_cell_at (ppa_cons (ppe_var 0) (ppa_cons (ppe_var 1) ppa_nil))))
    (ppss_one (pps_ret (ppc_lst (ppa_cons (ppe_mul (ppe_callB call_abs cp_abs (by rfl) Z.z_abs (by decide +kernel) (ppa_cons (ppe_var 2) ppa_nil)) (ppe_callTy call_int1 cp_int1 (by rfl) Z.z_int (by decide +kernel) (ppa_cons (ppe_cmp cm_ge (ppe_callB call_abs cp_abs (by rfl) Z.z_abs (by decide +kernel) (ppa_cons (ppe_var 2) ppa_nil)) (ppe_powc 1000000000000000000) (nomark _)) ppa_nil))) (ppa_cons (ppe_add (ppe_add (ppe_mod (ppe_var 2) ppe_int) (ppe_mul ppe_int (ppe_var 1))) ppe_int) (ppa_cons ppe_int ppa_nil)))))))⟩
set_option maxHeartbeats 4000000 in
theorem bd__law_take {k : Nat} {g__law_take : FB} (O__law_take : FnOk P w K mg base CX0 k Z.f__law_take Z.fd__law_take [("_law_box_here" : Str), ("_law_size" : Str)] (spB K 2 g__law_take)) : ∀ (cdv : Value) (A : Around) (outer : List Env) (s : Shared) (H : Hp) (E : XK), Room k (A.deeper (envOfC "_law_take" (defScope s__law_take) s.heap.objs.size Z.f__law_take cdv)) → ∃ t, PPSs (cxOf CX0 P w K mg base NN__law_take "_law_take" (defScope s__law_take) Z.f__law_take cdv A outer s H E).nox (defBody s__law_take) t (T__law_take g__law_take) :=
  fun cdv A outer s H E hr => ⟨_, (ppss_cons (pps_if (ppt_cmp cm_gt (ppe_ixO 0 ppe_int) ppe_int (nomark _))
    (ppss_cons (pps_set (i := 2) sc__law_take.nd (ppc_val (ppe_mod (ppe_ixO 0 ppe_int) (ppe_var 1))))
    (ppss_cons (pps_store 0 ppe_int (ppe_div (ppe_ixO 0 ppe_int) (ppe_var 1)))
    (ppss_one (pps_ret (ppc_move 2)))))
    ppss_nil)
    (ppss_cons (pps_if (ppt_cmp cm_gt (ppe_var 1) (ppe_powc 10000000) (nomark _))
    (ppss_one (pps_ret (ppc_val (ppe_mod (ppe_add (ppe_frz (ppc_callB 0 O__law_take hr (by rfl) Z.m__law_take Z.F__law_take.kp Z.b__law_take (ppa_cons (ppe_powc 10000000) ppa_nil))) (ppe_mul (ppe_powc 10000000) (ppe_frz (ppc_callB 0 O__law_take hr (by rfl) Z.m__law_take Z.F__law_take.kp Z.b__law_take (ppa_cons (ppe_add (ppe_div (ppe_sub (ppe_var 1) ppe_int) (ppe_powc 10000000)) ppe_int) ppa_nil))))) (ppe_var 1)))))
    ppss_nil)
    (ppss_cons (pps_store 0 ppe_int (ppe_add (ppe_ixO 0 ppe_int) ppe_int))
    (ppss_cons (pps_set (i := 3) sc__law_take.nd (ppc_val (ppe_mod (ppe_mul (ppe_add (ppe_ixO 0 ppe_int) (ppe_mul ppe_int (ppe_ixO 0 ppe_int))) (ppe_add ppe_int (ppe_ixO 0 ppe_int))) ppe_int)))
    (ppss_cons (pps_set (i := 4) sc__law_take.nd (ppc_val (ppe_mod (ppe_mul (ppe_add (ppe_add (ppe_var 3) (ppe_ixO 0 ppe_int)) (ppe_div (ppe_ixO 0 ppe_int) ppe_int)) (ppe_add (ppe_mod (ppe_var 3) ppe_int) ppe_int)) ppe_int)))
    (ppss_one (pps_ret (ppc_val (ppe_mod (ppe_div (ppe_mod (ppe_add (ppe_mul (ppe_var 4) ppe_int) (ppe_var 3)) ppe_int) ppe_int) (ppe_var 1))))))))))⟩
set_option maxHeartbeats 4000000 in
theorem bd__law_of {k : Nat} {g__law_take : FB} (O__law_take : FnOk P w K mg base CX0 k Z.f__law_take Z.fd__law_take [("_law_box_here" : Str), ("_law_size" : Str)] (spB K 2 g__law_take)) : ∀ (cdv : Value) (A : Around) (outer : List Env) (s : Shared) (H : Hp) (E : XK), Room k (A.deeper (envOfC "_law_of" (defScope s__law_of) s.heap.objs.size Z.f__law_of cdv)) → ∃ t, PPSs (cxOf CX0 P w K mg base NN__law_of "_law_of" (defScope s__law_of) Z.f__law_of cdv A outer s H E).nox (defBody s__law_of) t (T__law_of g__law_take) :=
  fun cdv A outer s H E hr => ⟨_, (ppss_one (pps_ret (ppc_val (ppe_ixO 1 (ppe_frz (ppc_callB 0 O__law_take hr (by rfl) Z.m__law_take Z.F__law_take.kp Z.b__law_take (ppa_cons (ppe_lenO 1 (by rfl) Z.z_len) ppa_nil)))))))⟩
set_option maxHeartbeats 4000000 in
theorem bd__law_same {k : Nat} {g__law_same : FA} (O__law_same : FnOk P w K mg base CX0 k Z.f__law_same Z.fd__law_same [("_law_told_here" : Str), ("_law_due" : Str)] (spA K 2 g__law_same)) : ∀ (cdv : Value) (A : Around) (outer : List Env) (s : Shared) (H : Hp) (E : XK), Room k (A.deeper (envOfC "_law_same" (defScope s__law_same) s.heap.objs.size Z.f__law_same cdv)) → ∃ t, PPSs (cxOf CX0 P w K mg base NN__law_same "_law_same" (defScope s__law_same) Z.f__law_same cdv A outer s H E).nox (defBody s__law_same) t (T__law_same g__law_same) :=
  fun cdv A outer s H E hr => ⟨_, (ppss_cons (pps_if (ppt_val (ppe_isi2 isT_list isT_tuple (by rfl) Z.z_isinstance (by rfl) Z.z_list (by rfl) Z.z_tuple (ppe_var 1)))
    (ppss_cons (pps_if (PPW.ppt (ppw_or (ppt_cmp (cm_ne (hu64 hr)) (ppe_isi isT_list (by rfl) Z.z_isinstance (by rfl) Z.z_list (ppe_var 0)) (ppe_isi isT_list (by rfl) Z.z_isinstance (by rfl) Z.z_list (ppe_var 1)) (nomark _)) (ppw_or1 (ppt_cmp (cm_ne (hu64 hr)) (ppe_isi isT_tuple (by rfl) Z.z_isinstance (by rfl) Z.z_tuple (ppe_var 0)) (ppe_isi isT_tuple (by rfl) Z.z_isinstance (by rfl) Z.z_tuple (ppe_var 1)) (nomark _)))))
    (ppss_one (pps_ret (ppc_val ppe_bl)))
    ppss_nil)
    (ppss_one (pps_ret (ppc_val (ppe_and (ppe_cmp (cm_eq (hu64 hr)) (ppe_lenO 0 (by rfl) Z.z_len) (ppe_lenO 1 (by rfl) Z.z_len) (nomark _)) (ppe_one (ppe_callB (cr_all rfl) cp_all (by rfl) Z.z_all (by decide +kernel) (ppa_cons (ppe_lcL (own := [("_law_one", 2), ("_law_two", 3)]) rfl sc__law_same.nd (ppi_z2 (by rfl) Z.z_zip (ppa_cons (ppe_var 0) (ppa_cons (ppe_var 1) ppa_nil))) (blkOk_by (N := NN__law_same) (sc := defScope s__law_same) (by decide +kernel)) (fun _ _ _ _ _ => ((ptg_tup (n := 2) rfl (ptgs_cons (ptg_name (i := 2) sc__law_same.nd) (ptgs_cons (ptg_name (i := 3) sc__law_same.nd) ptgs_nil)))).lift) (fun _ _ _ _ _ => (ppts_nil).lift) (fun _ _ _ _ _ => ((ppe_frz (ppc_callA O__law_same hr (by rfl) Z.m__law_same Z.F__law_same.kp Z.b__law_same (ppa_cons (ppe_var 2) (ppa_cons (ppe_var 3) ppa_nil))))).lift)) ppa_nil))))))))
    ppss_nil)
    (ppss_cons (pps_if (PPW.ppt (ppw_or (ppt_cmp cm_isN (ppe_var 1) ppe_non (nomark _)) (ppw_or1 (ppt_val (ppe_isi2 isT_bool isT_str (by rfl) Z.z_isinstance (by rfl) Z.z_bool (by rfl) Z.z_str (ppe_var 1))))))
    (ppss_one (pps_ret (ppc_val (ppe_and (ppe_cmp (cm_eq (hu64 hr)) (ppe_var 0) (ppe_var 1) (nomark _)) (ppe_and (ppe_cmp (cm_eq (hu64 hr)) (ppe_isi isT_bool (by rfl) Z.z_isinstance (by rfl) Z.z_bool (ppe_var 0)) (ppe_isi isT_bool (by rfl) Z.z_isinstance (by rfl) Z.z_bool (ppe_var 1)) (nomark _)) (ppe_one (ppe_cmp (cm_eq (hu64 hr)) (ppe_cmp cm_isN (ppe_var 0) ppe_non (nomark _)) (ppe_cmp cm_isN (ppe_var 1) ppe_non (nomark _)) (nomark _))))))))
    ppss_nil)
    (ppss_one (pps_ret (ppc_val (ppe_and (ppe_isi isT_int (by rfl) Z.z_isinstance (by rfl) Z.z_int (ppe_var 0)) (ppe_and (ppe_not (ppe_isi isT_bool (by rfl) Z.z_isinstance (by rfl) Z.z_bool (ppe_var 0))) (ppe_one (ppe_cmp (cm_eq (hu64 hr)) (ppe_var 0) (ppe_var 1) (nomark _))))))))))⟩
set_option maxHeartbeats 4000000 in
theorem bd__law_slope {k : Nat} {g__law_take : FB} (O__law_take : FnOk P w K mg base CX0 k Z.f__law_take Z.fd__law_take [("_law_box_here" : Str), ("_law_size" : Str)] (spB K 2 g__law_take)) : ∀ (cdv : Value) (A : Around) (outer : List Env) (s : Shared) (H : Hp) (E : XK), Room k (A.deeper (envOfC "_law_slope" (defScope s__law_slope) s.heap.objs.size Z.f__law_slope cdv)) → ∃ t, PPSs (cxOf CX0 P w K mg base NN__law_slope "_law_slope" (defScope s__law_slope) Z.f__law_slope cdv A outer s H E).nox (defBody s__law_slope) t (T__law_slope g__law_take) :=
  fun cdv A outer s H E hr => ⟨_, (ppss_one (pps_ret (ppc_callB 0 O__law_take hr (by rfl) Z.m__law_take Z.F__law_take.kp Z.b__law_take (ppa_cons (ppe_ix (ppe_lst (ppa_cons ppe_int (ppa_cons ppe_int (ppa_cons ppe_int (ppa_cons (ppe_powc 1000000000) ppa_nil))))) (ppe_frz (ppc_callB 0 O__law_take hr (by rfl) Z.m__law_take Z.F__law_take.kp Z.b__law_take (ppa_cons ppe_int ppa_nil)))) ppa_nil))))⟩
set_option maxHeartbeats 4000000 in
theorem bd__law_core {k : Nat} : ∀ (cdv : Value) (A : Around) (outer : List Env) (s : Shared) (H : Hp) (E : XK), Room k (A.deeper (envOfC "_law_core" (defScope s__law_core) s.heap.objs.size Z.f__law_core cdv)) → ∃ t, PPSs (cxOf CX0 P w K mg base NN__law_core "_law_core" (defScope s__law_core) Z.f__law_core cdv A outer s H E).nox (defBody s__law_core) t (T__law_core) :=
  fun cdv A outer s H E hr => ⟨_, (ppss_cons (pps_asgC (i := 1) (j := 2) rfl sc__law_core.nd (ppcs_cons (ppc_lst ppa_nil) (ppcs_cons (ppc_val ppe_non) ppcs_nil)))
    (ppss_cons (pps_for PassesOwn.never rfl (ppi_seq (ppe_var 0)) (ptg_tup (n := 2) rfl (ptgs_cons (ptg_name (i := 3) sc__law_core.nd) (ptgs_cons (ptg_name (i := 4) sc__law_core.nd) ptgs_nil)))
    (ppss_one (pps_if (PPW.ppt (ppw_or (ppt_cmp cm_isN (ppe_var 2) ppe_non (nomark _)) (ppw_or1 (ppt_cmp cm_lt (ppe_var 4) (ppe_var 2) (nomark _)))))
    (ppss_cons (pps_append 1 (ppe_tup (ppa_cons (ppe_var 3) (ppa_cons (ppe_var 4) ppa_nil))))
    (ppss_one (pps_set (i := 2) sc__law_core.nd (ppc_val (ppe_var 4)))))
    ppss_nil)))
    (ppss_one (pps_ret (ppc_lcL (own := [("_law_k", 5), ("_law_wind", 6)]) rfl sc__law_core.nd (ppi_e (by rfl) Z.z_enumerate (ppa_cons (ppe_var 1) ppa_nil)) (blkOk_by (N := NN__law_core) (sc := defScope s__law_core) (by decide +kernel)) (fun _ _ _ _ _ => ((ptg_tup (n := 2) rfl (ptgs_cons (ptg_name (i := 5) sc__law_core.nd) (ptgs_cons (ptg_name (i := 6) sc__law_core.nd) ptgs_nil)))).lift) (fun _ _ _ _ _ => ((ppts_one (PPW.ppt (ppw_or (ppt_cmp (cm_eq (hu64 hr)) (ppe_add (ppe_var 5) ppe_int) (ppe_lenO 1 (by rfl) Z.z_len) (nomark _)) (ppw_or1 (ppt_cmp (cm_ne (hu64 hr)) (ppe_ix (ppe_ixO 1 (ppe_add (ppe_var 5) ppe_int)) ppe_int) (ppe_ixO 6 ppe_int) (nomark _))))))).lift) (fun _ _ _ _ _ => ((ppe_var 6)).lift))))))⟩
set_option maxHeartbeats 4000000 in
theorem bd__law_lists {k : Nat} {g__law_lists : FA} (O__law_lists : FnOk P w K mg base CX0 k Z.f__law_lists Z.fd__law_lists [("_law_thing" : Str)] (spA K 1 g__law_lists)) : ∀ (cdv : Value) (A : Around) (outer : List Env) (s : Shared) (H : Hp) (E : XK), Room k (A.deeper (envOfC "_law_lists" (defScope s__law_lists) s.heap.objs.size Z.f__law_lists cdv)) → ∃ t, PPSs (cxOf CX0 P w K mg base NN__law_lists "_law_lists" (defScope s__law_lists) Z.f__law_lists cdv A outer s H E).nox (defBody s__law_lists) t (T__law_lists g__law_lists) :=
  fun cdv A outer s H E hr => ⟨_, (ppss_one (pps_ret (ppc_val (ppe_ifExp (ppt_val (ppe_isi2 isT_list isT_tuple (by rfl) Z.z_isinstance (by rfl) Z.z_list (by rfl) Z.z_tuple (ppe_var 0))) (ppe_lcL (own := [("_law_one", 1)]) rfl sc__law_lists.nd (ppi_seq (ppe_var 0)) (blkOk_by (N := NN__law_lists) (sc := defScope s__law_lists) (by decide +kernel)) (fun _ _ _ _ _ => ((ptg_name (i := 1) sc__law_lists.nd)).lift) (fun _ _ _ _ _ => (ppts_nil).lift) (fun _ _ _ _ _ => ((ppe_frz (ppc_callA O__law_lists hr (by rfl) Z.m__law_lists Z.F__law_lists.kp Z.b__law_lists (ppa_cons (ppe_var 1) ppa_nil)))).lift)) (ppe_var 0)))))⟩
set_option maxHeartbeats 4000000 in
theorem bd__law_books {k : Nat} {g__law_take : FB} (O__law_take : FnOk P w K mg base CX0 k Z.f__law_take Z.fd__law_take [("_law_box_here" : Str), ("_law_size" : Str)] (spB K 2 g__law_take)) {g__law_slope : FB} (O__law_slope : FnOk P w K mg base CX0 k Z.f__law_slope Z.fd__law_slope [("_law_box_here" : Str)] (spB K 1 g__law_slope)) : ∀ (cdv : Value) (A : Around) (outer : List Env) (s : Shared) (H : Hp) (E : XK), Room k (A.deeper (envOfC "_law_books" (defScope s__law_books) s.heap.objs.size Z.f__law_books cdv)) → ∃ t, PPSs (cxOf CX0 P w K mg base NN__law_books "_law_books" (defScope s__law_books) Z.f__law_books cdv A outer s H E).nox (defBody s__law_books) t (T__law_books g__law_take g__law_slope) :=
  fun cdv A outer s H E hr => ⟨_, (ppss_cons (pps_parC3 (i := 2) (j := 3) (l := 4) rfl sc__law_books.nd (ppcs_cons (ppc_lst ppa_nil) (ppcs_cons (ppc_lst ppa_nil) (ppcs_cons (ppc_callB 0 O__law_take hr (by rfl) Z.m__law_take Z.F__law_take.kp Z.b__law_take (ppa_cons ppe_int ppa_nil)) ppcs_nil))))
    (ppss_cons (pps_if (ppt_cmp (cm_eq (hu64 hr)) (ppe_var 4) ppe_int (nomark _))
    (ppss_cons (pps_set (i := 5) sc__law_books.nd (ppc_val (ppe_add ppe_int (ppe_frz (ppc_callB 0 O__law_take hr (by rfl) Z.m__law_take Z.F__law_take.kp Z.b__law_take (ppa_cons ppe_int ppa_nil))))))
    (ppss_cons (pps_for PassesOwn.never rfl (ppi_range1 (by rfl) Z.z_range (ppa_cons (ppe_frz (ppc_callB 0 O__law_take hr (by rfl) Z.m__law_take Z.F__law_take.kp Z.b__law_take (ppa_cons (ppe_add (ppe_mul ppe_int (ppe_var 1)) ppe_int) ppa_nil))) ppa_nil)) (ptg_name (i := 6) sc__law_books.nd)
    (ppss_cons (pps_set (i := 7) sc__law_books.nd (ppc_val (ppe_ix (ppe_lst (ppa_cons (ppe_adr 2) (ppa_cons (ppe_adr 3) ppa_nil))) (ppe_mod (ppe_add (ppe_var 6) (ppe_mul (ppe_frz (ppc_callB 0 O__law_take hr (by rfl) Z.m__law_take Z.F__law_take.kp Z.b__law_take (ppa_cons ppe_int ppa_nil))) (ppe_frz (ppc_callB 0 O__law_take hr (by rfl) Z.m__law_take Z.F__law_take.kp Z.b__law_take (ppa_cons ppe_int ppa_nil))))) ppe_int))))
    (ppss_cons (pps_appendA 7 [2, 3] (ppe_var 5))
    (ppss_one (pps_set (i := 5) sc__law_books.nd (ppc_val (ppe_callB (call_max2 rfl) cp_max2 (by rfl) Z.z_max (by decide +kernel) (ppa_cons ppe_int (ppa_cons (ppe_sub (ppe_sub (ppe_var 5) ppe_int) (ppe_frz (ppc_callB 0 O__law_take hr (by rfl) Z.m__law_take Z.F__law_take.kp Z.b__law_take (ppa_cons ppe_int ppa_nil)))) ppa_nil)))))))))
    (ppss_one (pps_ret (ppc_val (ppe_tup (ppa_cons (ppe_slice (ppe_var 2) ppo_none (ppo_some (ppe_var 1))) (ppa_cons (ppe_slice (ppe_var 3) ppo_none (ppo_some (ppe_var 1))) ppa_nil))))))))
    ppss_nil)
    (ppss_cons (pps_for PassesOwn.never rfl (ppi_seq (ppe_tup (ppa_cons (ppe_adr 2) (ppa_cons (ppe_adr 3) ppa_nil)))) (ptg_name (i := 7) sc__law_books.nd)
    (ppss_one (pps_for PassesOwn.never rfl (ppi_range1 (by rfl) Z.z_range (ppa_cons (ppe_frz (ppc_callB 0 O__law_take hr (by rfl) Z.m__law_take Z.F__law_take.kp Z.b__law_take (ppa_cons (ppe_add (ppe_var 1) ppe_int) ppa_nil))) ppa_nil)) (ptg_name (i := 6) sc__law_books.nd)
    (ppss_one (pps_appendA 7 [2, 3] (ppe_ifExp (ppt_cmp cm_lt (ppe_var 4) ppe_int (nomark _)) (ppe_frz (ppc_callB 0 O__law_slope hr (by rfl) Z.m__law_slope Z.F__law_slope.kp Z.b__law_slope ppa_nil)) (ppe_frz (ppc_callB 0 O__law_take hr (by rfl) Z.m__law_take Z.F__law_take.kp Z.b__law_take (ppa_cons ppe_int ppa_nil)))))))))
    (ppss_one (pps_ret (ppc_val (ppe_tup (ppa_cons (ppe_var 2) (ppa_cons (ppe_var 3) ppa_nil)))))))))⟩
set_option maxHeartbeats 4000000 in
theorem bd__law_orders {k : Nat} {g__law_orders : FA} (O__law_orders : FnOk P w K mg base CX0 k Z.f__law_orders Z.fd__law_orders [("_law_cuts" : Str), ("_law_fills" : Str)] (spA K 2 g__law_orders)) : ∀ (cdv : Value) (A : Around) (outer : List Env) (s : Shared) (H : Hp) (E : XK), Room k (A.deeper (envOfC "_law_orders" (defScope s__law_orders) s.heap.objs.size Z.f__law_orders cdv)) → ∃ t, PPSs (cxOf CX0 P w K mg base NN__law_orders "_law_orders" (defScope s__law_orders) Z.f__law_orders cdv A outer s H E).nox (defBody s__law_orders) t (T__law_orders g__law_orders) :=
  fun cdv A outer s H E hr => ⟨_, (ppss_cons (pps_if (PPW.ppt (ppw_or (ppt_cmp (cm_eq (hu64 hr)) (ppe_var 0) ppe_int (nomark _)) (ppw_or1 (ppt_cmp (cm_eq (hu64 hr)) (ppe_var 1) ppe_int (nomark _)))))
    (ppss_one (pps_ret (ppc_lst (ppa_cons (ppe_add (ppe_mulS ppe_str (ppe_var 0)) (ppe_mulS ppe_str (ppe_var 1))) ppa_nil))))
    ppss_nil)
    (ppss_one (pps_ret (ppc_cat (ppe_lcL (own := [("_law_text", 2)]) rfl sc__law_orders.nd (ppi_seq (ppe_frz (ppc_callA O__law_orders hr (by rfl) Z.m__law_orders Z.F__law_orders.kp Z.b__law_orders (ppa_cons (ppe_sub (ppe_var 0) ppe_int) (ppa_cons (ppe_var 1) ppa_nil))))) (blkOk_by (N := NN__law_orders) (sc := defScope s__law_orders) (by decide +kernel)) (fun _ _ _ _ _ => ((ptg_name (i := 2) sc__law_orders.nd)).lift) (fun _ _ _ _ _ => (ppts_nil).lift) (fun _ _ _ _ _ => ((ppe_add ppe_str (ppe_var 2))).lift)) (ppe_lcL (own := [("_law_text", 2)]) rfl sc__law_orders.nd (ppi_seq (ppe_frz (ppc_callA O__law_orders hr (by rfl) Z.m__law_orders Z.F__law_orders.kp Z.b__law_orders (ppa_cons (ppe_var 0) (ppa_cons (ppe_sub (ppe_var 1) ppe_int) ppa_nil))))) (blkOk_by (N := NN__law_orders) (sc := defScope s__law_orders) (by decide +kernel)) (fun _ _ _ _ _ => ((ptg_name (i := 2) sc__law_orders.nd)).lift) (fun _ _ _ _ _ => (ppts_nil).lift) (fun _ _ _ _ _ => ((ppe_add ppe_str (ppe_var 2))).lift))))))⟩
set_option maxHeartbeats 4000000 in
theorem bd__law_almanac {k : Nat} : ∀ (cdv : Value) (A : Around) (outer : List Env) (s : Shared) (H : Hp) (E : XK), Room k (A.deeper (envOfC "_law_almanac" (defScope s__law_almanac) s.heap.objs.size Z.f__law_almanac cdv)) → ∃ t, PPSs (cxOf CX0 P w K mg base NN__law_almanac "_law_almanac" (defScope s__law_almanac) Z.f__law_almanac cdv A outer s H E).nox (defBody s__law_almanac) t (T__law_almanac) :=
  fun cdv A outer s H E hr => ⟨_, (ppss_cons (pps_parC3 (i := 3) (j := 4) (l := 5) rfl sc__law_almanac.nd (ppcs_cons (ppc_list (by rfl) Z.z_list (ppa_cons (ppe_var 0) ppa_nil)) (ppcs_cons (ppc_list (by rfl) Z.z_list (ppa_cons (ppe_var 1) ppa_nil)) (ppcs_cons (ppc_lst ppa_nil) ppcs_nil))))
    (ppss_cons (pps_for PassesOwn.never rfl (ppi_str (ppe_var 2)) (ptg_name (i := 6) sc__law_almanac.nd)
    (ppss_one (pps_append 5 (ppe_ifExp (ppt_cmp (cm_eq (hu64 hr)) (ppe_var 6) ppe_str (nomark _)) (ppe_tup (ppa_cons ppe_str (ppa_cons (ppe_pop 3 ppe_int) ppa_nil))) (ppe_tup (ppa_cons ppe_str (ppa_cons (ppe_pop 4 ppe_int) ppa_nil)))))))
    (ppss_one (pps_ret (ppc_move 5)))))⟩
set_option maxHeartbeats 4000000 in
theorem bd__law_near {k : Nat} {g__law_take : FB} (O__law_take : FnOk P w K mg base CX0 k Z.f__law_take Z.fd__law_take [("_law_box_here" : Str), ("_law_size" : Str)] (spB K 2 g__law_take)) {g__law_slope : FB} (O__law_slope : FnOk P w K mg base CX0 k Z.f__law_slope Z.fd__law_slope [("_law_box_here" : Str)] (spB K 1 g__law_slope)) : ∀ (cdv : Value) (A : Around) (outer : List Env) (s : Shared) (H : Hp) (E : XK), Room k (A.deeper (envOfC "_law_near" (defScope s__law_near) s.heap.objs.size Z.f__law_near cdv)) → ∃ t, PPSs (cxOf CX0 P w K mg base NN__law_near "_law_near" (defScope s__law_near) Z.f__law_near cdv A outer s H E).nox (defBody s__law_near) t (T__law_near g__law_take g__law_slope) :=
  fun cdv A outer s H E hr => ⟨_, (ppss_cons (pps_par (i := 2) (j := 3) rfl sc__law_near.nd (ppa_cons (ppe_callTy call_list_of cp_lst (by rfl) Z.z_list (by decide +kernel) (ppa_cons (ppe_var 1) ppa_nil)) (ppa_cons (ppe_frz (ppc_callB 0 O__law_take hr (by rfl) Z.m__law_take Z.F__law_take.kp Z.b__law_take (ppa_cons ppe_int ppa_nil))) ppa_nil)))
    (ppss_cons (pps_set (i := 4) sc__law_near.nd (ppc_callB 0 O__law_take hr (by rfl) Z.m__law_take Z.F__law_take.kp Z.b__law_take (ppa_cons (ppe_add (ppe_lenO 2 (by rfl) Z.z_len) ppe_int) ppa_nil)))
    (ppss_cons (pps_if (PPW.ppt (ppw_or (ppt_cmp (cm_eq (hu64 hr)) (ppe_var 3) ppe_int (nomark _)) (ppw_or1 (ppt_cmp (cm_eq (hu64 hr)) (ppe_var 4) (ppe_lenO 2 (by rfl) Z.z_len) (nomark _)))))
    (ppss_one (pps_ret (ppc_val (ppe_add (ppe_add (ppe_slice (ppe_var 2) ppo_none (ppo_some (ppe_var 4))) (ppe_lst (ppa_cons (ppe_tup (ppa_cons (ppe_ix (ppe_lst (ppa_cons ppe_str (ppa_cons ppe_str ppa_nil))) (ppe_frz (ppc_callB 0 O__law_take hr (by rfl) Z.m__law_take Z.F__law_take.kp Z.b__law_take (ppa_cons ppe_int ppa_nil)))) (ppa_cons (ppe_frz (ppc_callB 0 O__law_slope hr (by rfl) Z.m__law_slope Z.F__law_slope.kp Z.b__law_slope ppa_nil)) ppa_nil))) ppa_nil))) (ppe_slice (ppe_var 2) (ppo_some (ppe_var 4)) ppo_none)))))
    ppss_nil)
    (ppss_cons (pps_asg (ppe_ixO 2 (ppe_var 4)) (ptg_tup (n := 2) rfl (ptgs_cons (ptg_name (i := 5) sc__law_near.nd) (ptgs_cons (ptg_name (i := 6) sc__law_near.nd) ptgs_nil))))
    (ppss_cons (pps_if (ppt_cmp (cm_eq (hu64 hr)) (ppe_var 3) ppe_int (nomark _))
    (ppss_one (pps_ret (ppc_val (ppe_add (ppe_slice (ppe_var 2) ppo_none (ppo_some (ppe_var 4))) (ppe_slice (ppe_var 2) (ppo_some (ppe_add (ppe_var 4) ppe_int)) ppo_none)))))
    ppss_nil)
    (ppss_cons (pps_if (ppt_cmp (cm_eq (hu64 hr)) (ppe_var 3) ppe_int (nomark _))
    (ppss_one (pps_ret (ppc_val (ppe_add (ppe_add (ppe_slice (ppe_var 2) ppo_none (ppo_some (ppe_var 4))) (ppe_lst (ppa_cons (ppe_ixO 2 (ppe_var 4)) ppa_nil))) (ppe_slice (ppe_var 2) (ppo_some (ppe_var 4)) ppo_none)))))
    ppss_nil)
    (ppss_cons (pps_if (ppt_cmp (cm_eq (hu64 hr)) (ppe_var 3) ppe_int (nomark _))
    (ppss_one (pps_ret (ppc_val (ppe_add (ppe_add (ppe_slice (ppe_var 2) ppo_none (ppo_some (ppe_var 4))) (ppe_rev (ppe_slice (ppe_var 2) (ppo_some (ppe_var 4)) (ppo_some (ppe_add (ppe_var 4) ppe_int))))) (ppe_slice (ppe_var 2) (ppo_some (ppe_add (ppe_var 4) ppe_int)) ppo_none)))))
    ppss_nil)
    (ppss_cons (pps_if (ppt_cmp (cm_eq (hu64 hr)) (ppe_var 3) ppe_int (nomark _))
    (ppss_one (pps_set (i := 5) sc__law_near.nd (ppc_val (ppe_ix (ppe_lst (ppa_cons ppe_str (ppa_cons ppe_str ppa_nil))) (ppe_callTy call_int1 cp_int1 (by rfl) Z.z_int (by decide +kernel) (ppa_cons (ppe_cmp (cm_eq (hu64 hr)) (ppe_var 5) ppe_str (nomark _)) ppa_nil))))))
    ppss_nil)
    (ppss_one (pps_ret (ppc_val (ppe_add (ppe_add (ppe_slice (ppe_var 2) ppo_none (ppo_some (ppe_var 4))) (ppe_lst (ppa_cons (ppe_tup (ppa_cons (ppe_var 5) (ppa_cons (ppe_callB (call_max2 rfl) cp_max2 (by rfl) Z.z_max (by decide +kernel) (ppa_cons ppe_int (ppa_cons (ppe_add (ppe_var 6) (ppe_ix (ppe_lst (ppa_cons ppe_int (ppa_cons ppe_int (ppa_cons ppe_int (ppa_cons ppe_int (ppa_cons ppe_int (ppa_cons ppe_int (ppa_cons (ppe_neg ppe_int) ppa_nil)))))))) (ppe_var 3))) ppa_nil))) ppa_nil))) ppa_nil))) (ppe_slice (ppe_var 2) (ppo_some (ppe_add (ppe_var 4) ppe_int)) ppo_none)))))))))))))⟩
set_option maxHeartbeats 4000000 in
theorem bd__law_told {k : Nat} {g_order_for : FA} (O_order_for : FnOk P w K mg base CX0 k Z.f_order_for Z.fd_order_for [("cuts" : Str), ("fills" : Str), ("core" : Str)] (spA K 3 g_order_for)) {gx_order_for : FX} (OX_order_for : FnOk P w K mg base (L2.CX P w) k Z.f_order_for Z.fd_order_for [("cuts" : Str), ("fills" : Str), ("core" : Str)] (spX K 3 gx_order_for)) : ∀ (cdv : Value) (A : Around) (outer : List Env) (s : Shared) (H : Hp) (E : XK), Room k (A.deeper (envOfC "_law_told" (defScope s__law_told) s.heap.objs.size Z.f__law_told cdv)) → ∃ t, PPSs (cxOf CX0 P w K mg base NN__law_told "_law_told" (defScope s__law_told) Z.f__law_told cdv A outer s H E).nox (defBody s__law_told) t (T__law_told g_order_for gx_order_for) :=
  fun cdv A outer s H E hr => ⟨_, (ppss_cons (pps_asg (ppe_tup (ppa_cons ppe_non (ppa_cons ppe_non ppa_nil))) (ptg_tup (n := 2) rfl (ptgs_cons (ptg_name (i := 3) sc__law_told.nd) (ptgs_cons (ptg_name (i := 4) sc__law_told.nd) ptgs_nil))))
    (ppss_cons (pps_try (i := 5) (j := 4) (cs := [("NoCore" : Str), ("NoOrder" : Str), ("TooMany" : Str)]) rfl rfl rfl sc__law_told.nd rfl rfl rfl rfl (fun W pn xe tk po => ((pxss_one (pxs_or (pps_set (i := 3) sc__law_told.nd (ppc_callA O_order_for hr (by rfl) Z.m_order_for Z.F_order_for.kp Z.b_order_for (ppa_cons (ppe_var 0) (ppa_cons (ppe_var 1) (ppa_cons (ppe_var 2) ppa_nil)))))
    (pxs_set (i := 3) sc__law_told.nd (pxe_call OX_order_for tk hr (by rfl) Z.m_order_for Z.F_order_for.kp Z.b_order_for (ppa_cons (ppe_var 0) (ppa_cons (ppe_var 1) (ppa_cons (ppe_var 2) ppa_nil)))))))).lift)
    (hit3 Z.x_NoCore Z.x_NoOrder Z.x_TooMany (by rfl) (by rfl) (by rfl)))
    (ppss_cons (pps_if (ppt_cmp cm_isN (ppe_var 4) ppe_non (nomark _))
    (ppss_one (pps_ret (ppc_move 3)))
    ppss_nil)
    (ppss_cons (pps_set (i := 6) sc__law_told.nd (ppc_val (ppe_and (ppe_isX (xcs_cons Z.x_NoCore (xcs_cons Z.x_NoOrder (xcs_cons Z.x_TooMany xcs_nil))) (itx_own Z.x_NoCore (by rfl)) (by rfl) Z.z_isinstance (ppe_var 4)) (ppe_one (ppe_isX (xcs_cons Z.x_NoCore (xcs_cons Z.x_NoOrder (xcs_cons Z.x_TooMany xcs_nil))) (itx_blt (n := "LookupError") (by rfl) Z.z_LookupError) (by rfl) Z.z_isinstance (ppe_var 4))))))
    (ppss_cons (pps_set (i := 6) sc__law_told.nd (ppc_val (ppe_and (ppe_var 6) (ppe_one (ppe_not (ppe_isX2 (xcs_cons Z.x_NoCore (xcs_cons Z.x_NoOrder (xcs_cons Z.x_TooMany xcs_nil))) (itx_blt (n := "IndexError") (by rfl) Z.z_IndexError) (itx_blt (n := "KeyError") (by rfl) Z.z_KeyError) (by rfl) Z.z_isinstance (ppe_var 4)))))))
    (ppss_one (pps_ret (ppc_val (ppe_ifExp (PPW.ppt (ppw_and (ppt_val (ppe_var 6)) (ppw_and1 (ppt_not (ppt_val (ppe_isX2 (xcs_cons Z.x_NoCore (xcs_cons Z.x_NoOrder (xcs_cons Z.x_TooMany xcs_nil))) (itx_own Z.x_NoOrder (by rfl)) (itx_own Z.x_TooMany (by rfl)) (by rfl) Z.z_isinstance (ppe_var 4))))))) (ppe_lst (ppa_cons (ppe_xf (xcs_cons Z.x_NoCore (xcs_cons Z.x_NoOrder (xcs_cons Z.x_TooMany xcs_nil))) (ppe_var 4)) ppa_nil)) ppe_non)))))))))⟩
set_option maxHeartbeats 4000000 in
theorem bd__law_right {k : Nat} {g__law_of : FB} (O__law_of : FnOk P w K mg base CX0 k Z.f__law_of Z.fd__law_of [("_law_box_here" : Str), ("_law_some" : Str)] (spB K 2 g__law_of)) {g__law_same : FA} (O__law_same : FnOk P w K mg base CX0 k Z.f__law_same Z.fd__law_same [("_law_told_here" : Str), ("_law_due" : Str)] (spA K 2 g__law_same)) {g__law_core : FA} (O__law_core : FnOk P w K mg base CX0 k Z.f__law_core Z.fd__law_core [("_law_winds" : Str)] (spA K 1 g__law_core)) {g__law_lists : FA} (O__law_lists : FnOk P w K mg base CX0 k Z.f__law_lists Z.fd__law_lists [("_law_thing" : Str)] (spA K 1 g__law_lists)) {g__law_books : FB} (O__law_books : FnOk P w K mg base CX0 k Z.f__law_books Z.fd__law_books [("_law_box_here" : Str), ("_law_size" : Str)] (spB K 2 g__law_books)) {g__law_orders : FA} (O__law_orders : FnOk P w K mg base CX0 k Z.f__law_orders Z.fd__law_orders [("_law_cuts" : Str), ("_law_fills" : Str)] (spA K 2 g__law_orders)) {g__law_almanac : FA} (O__law_almanac : FnOk P w K mg base CX0 k Z.f__law_almanac Z.fd__law_almanac [("_law_cuts" : Str), ("_law_fills" : Str), ("_law_order" : Str)] (spA K 3 g__law_almanac)) {g__law_near : FB} (O__law_near : FnOk P w K mg base CX0 k Z.f__law_near Z.fd__law_near [("_law_box_here" : Str), ("_law_winds" : Str)] (spB K 2 g__law_near)) {g__law_told : FA} (O__law_told : FnOk P w K mg base CX0 k Z.f__law_told Z.fd__law_told [("_law_cuts" : Str), ("_law_fills" : Str), ("_law_winds" : Str)] (spA K 3 g__law_told)) : ∀ (cdv : Value) (A : Around) (outer : List Env) (s : Shared) (H : Hp) (E : XK), Room k (A.deeper (envOfC "_law_right" (defScope s__law_right) s.heap.objs.size Z.f__law_right cdv)) → ∃ t, PPSs (cxOf CX0 P w K mg base NN__law_right "_law_right" (defScope s__law_right) Z.f__law_right cdv A outer s H E).nox (defBody s__law_right) t (T__law_right P w g__law_of g__law_same g__law_core g__law_lists g__law_books g__law_orders g__law_almanac g__law_near g__law_told) :=
  fun cdv A outer s H E hr => ⟨_, (ppss_cons (pps_asg (ppe_frz (ppc_callB 0 O__law_books hr (by rfl) Z.m__law_books Z.F__law_books.kp Z.b__law_books (ppa_cons ppe_int ppa_nil))) (ptg_tup (n := 2) rfl (ptgs_cons (ptg_name (i := 1) sc__law_right.nd) (ptgs_cons (ptg_name (i := 2) sc__law_right.nd) ptgs_nil))))
    (ppss_cons (pps_parB (i := 3) (j := 4) rfl sc__law_right.nd (ppbs_cons (ppc_callA O__law_orders hr (by rfl) Z.m__law_orders Z.F__law_orders.kp Z.b__law_orders (ppa_cons (ppe_lenO 1 (by rfl) Z.z_len) (ppa_cons (ppe_lenO 2 (by rfl) Z.z_len) ppa_nil))) (ppbs_cons ppc_nnew ppbs_nil)))
    (ppss_cons (pps_for PassesOwn.never rfl (ppi_seq (ppe_rev (ppe_var 3))) (ptg_name (i := 5) sc__law_right.nd)
    (ppss_one (pps_nput 4 (hu64 hr) (ppe_callTy call_tuple_of cp_tup (by rfl) Z.z_tuple (by decide +kernel) (ppa_cons (ppe_frz (ppc_callA O__law_core hr (by rfl) Z.m__law_core Z.F__law_core.kp Z.b__law_core (ppa_cons (ppe_frz (ppc_callA O__law_almanac hr (by rfl) Z.m__law_almanac Z.F__law_almanac.kp Z.b__law_almanac (ppa_cons (ppe_var 1) (ppa_cons (ppe_var 2) (ppa_cons (ppe_var 5) ppa_nil))))) ppa_nil))) ppa_nil)) (ppe_var 5))))
    (ppss_cons (pps_set (i := 7) sc__law_right.nd (ppc_val (ppe_frz (ppc_lcN2L (own := [("_law_winds", 6)]) 4 rfl sc__law_right.nd (blkOk_by (N := NN__law_right) (sc := defScope s__law_right) (by decide +kernel)) (fun _ _ _ _ _ => ((ptg_name (i := 6) sc__law_right.nd)).lift) (fun _ _ _ _ _ => (ppts_nil).lift) (fun _ _ _ _ _ => ((ppe_callTy call_list_of cp_lst (by rfl) Z.z_list (by decide +kernel) (ppa_cons (ppe_var 6) ppa_nil))).lift)))))
    (ppss_cons (pps_setLcV (i := 9) (own := [("_law_turn", 8)]) rfl sc__law_right.nd (ppi_range1 (by rfl) Z.z_range (ppa_cons ppe_int ppa_nil)) (blkOk_by (N := NN__law_right) (sc := defScope s__law_right) (by decide +kernel)) (fun _ _ _ _ _ => ((ptg_name (i := 8) sc__law_right.nd)).lift) (fun _ _ _ _ _ => (ppts_nil).lift) (fun _ _ _ _ _ => ((ppe_frz (ppc_callA O__law_core hr (by rfl) Z.m__law_core Z.F__law_core.kp Z.b__law_core (ppa_cons (ppe_frz (ppc_callB 0 O__law_near hr (by rfl) Z.m__law_near Z.F__law_near.kp Z.b__law_near (ppa_cons (ppe_frz (ppc_callB 0 O__law_of hr (by rfl) Z.m__law_of Z.F__law_of.kp Z.b__law_of (ppa_cons (ppe_var 7) ppa_nil))) ppa_nil))) ppa_nil)))).lift))
    (ppss_cons (pps_set (i := 9) sc__law_right.nd (ppc_val (ppe_add (ppe_add (ppe_var 9) (ppe_lcL (own := [("_law_turn", 8)]) rfl sc__law_right.nd (ppi_range1 (by rfl) Z.z_range (ppa_cons ppe_int ppa_nil)) (blkOk_by (N := NN__law_right) (sc := defScope s__law_right) (by decide +kernel)) (fun _ _ _ _ _ => ((ptg_name (i := 8) sc__law_right.nd)).lift) (fun _ _ _ _ _ => (ppts_nil).lift) (fun _ _ _ _ _ => ((ppe_frz (ppc_callB 0 O__law_near hr (by rfl) Z.m__law_near Z.F__law_near.kp Z.b__law_near (ppa_cons (ppe_frz (ppc_callB 0 O__law_of hr (by rfl) Z.m__law_of Z.F__law_of.kp Z.b__law_of (ppa_cons (ppe_var 7) ppa_nil))) ppa_nil)))).lift))) (ppe_lst (ppa_cons (ppe_lst ppa_nil) (ppa_cons (ppe_lst (ppa_cons (ppe_tup (ppa_cons ppe_str (ppa_cons (ppe_mul ppe_int (ppe_powc 1000000000)) ppa_nil))) ppa_nil)) ppa_nil))))))
    (ppss_cons (pps_for PassesOwn.never rfl (ppi_seq (ppe_add (ppe_var 7) (ppe_var 9))) (ptg_name (i := 6) sc__law_right.nd)
    (ppss_cons (pps_set (i := 10) sc__law_right.nd (ppc_val (ppe_ifExp (ppt_nin 4 (hu64 hr) (ppe_callTy call_tuple_of cp_tup (by rfl) Z.z_tuple (by decide +kernel) (ppa_cons (ppe_var 6) ppa_nil))) (ppe_nget 4 (hu64 hr) (ppe_callTy call_tuple_of cp_tup (by rfl) Z.z_tuple (by decide +kernel) (ppa_cons (ppe_var 6) ppa_nil))) (ppe_lst (ppa_cons (ppe_var 6) ppa_nil)))))
    (ppss_cons (pps_if (ppt_not (ppt_val (ppe_frz (ppc_callA O__law_same hr (by rfl) Z.m__law_same Z.F__law_same.kp Z.b__law_same (ppa_cons (ppe_frz (ppc_callA O__law_told hr (by rfl) Z.m__law_told Z.F__law_told.kp Z.b__law_told (ppa_cons (ppe_var 1) (ppa_cons (ppe_var 2) (ppa_cons (ppe_var 6) ppa_nil))))) (ppa_cons (ppe_var 10) ppa_nil))))))
    (ppss_one (pps_ret (ppc_val ppe_bl)))
    ppss_nil)
    (ppss_cons (pps_set (i := 11) sc__law_right.nd (ppc_val (ppe_callTy call_tuple_of cp_tup (by rfl) Z.z_tuple (by decide +kernel) (ppa_cons (ppe_frz (ppc_callA O__law_lists hr (by rfl) Z.m__law_lists Z.F__law_lists.kp Z.b__law_lists (ppa_cons (ppe_var 6) ppa_nil))) ppa_nil))))
    (ppss_cons (pps_set (i := 10) sc__law_right.nd (ppc_val (ppe_ifExp (ppt_nin 4 (hu64 hr) (ppe_callTy call_tuple_of cp_tup (by rfl) Z.z_tuple (by decide +kernel) (ppa_cons (ppe_var 6) ppa_nil))) (ppe_var 10) (ppe_lst (ppa_cons (ppe_var 11) ppa_nil)))))
    (ppss_one (pps_if (ppt_not (ppt_val (ppe_frz (ppc_callA O__law_same hr (by rfl) Z.m__law_same Z.F__law_same.kp Z.b__law_same (ppa_cons (ppe_frz (ppc_callA O__law_told hr (by rfl) Z.m__law_told Z.F__law_told.kp Z.b__law_told (ppa_cons (ppe_callTy call_tuple_of cp_tup (by rfl) Z.z_tuple (by decide +kernel) (ppa_cons (ppe_var 1) ppa_nil)) (ppa_cons (ppe_var 2) (ppa_cons (ppe_var 11) ppa_nil))))) (ppa_cons (ppe_var 10) ppa_nil))))))
    (ppss_one (pps_ret (ppc_val ppe_bl)))
    ppss_nil)))))))
    (ppss_one (pps_ret (ppc_val ppe_bl))))))))))⟩
set_option maxHeartbeats 4000000 in
theorem bd_law {k : Nat} {g__law_box : FA} (O__law_box : FnOk P w K mg base CX0 k Z.f__law_box Z.fd__law_box [("_law_script" : Str), ("_law_k" : Str)] (spA K 2 g__law_box)) {g__law_right : FB} (O__law_right : FnOk P w K mg base CX0 k Z.f__law_right Z.fd__law_right [("_law_box_here" : Str)] (spB K 1 g__law_right)) : ∀ (cdv : Value) (A : Around) (outer : List Env) (s : Shared) (H : Hp) (E : XK), Room k (A.deeper (envOfC "law" (defScope s_law) s.heap.objs.size Z.f_law cdv)) → ∃ t, PPSs (cxOf CX0 P w K mg base NN_law "law" (defScope s_law) Z.f_law cdv A outer s H E).nox (defBody s_law) t (T_law g__law_box g__law_right) :=
  fun cdv A outer s H E hr => ⟨_, (ppss_cons (pps_for PassesOwn.never rfl (ppi_range1 (by rfl) Z.z_range (ppa_cons (ppe_add ppe_int (ppe_callB (call_min2 rfl) cp_min2 (by rfl) Z.z_min (by decide +kernel) (ppa_cons ppe_int (ppa_cons (ppe_lenO 0 (by rfl) Z.z_len) ppa_nil)))) ppa_nil)) (ptg_name (i := 1) sc_law.nd)
    (ppss_cons (pps_set (i := 2) sc_law.nd (ppc_callA O__law_box hr (by rfl) Z.m__law_box Z.F__law_box.kp Z.b__law_box (ppa_cons (ppe_var 0) (ppa_cons (ppe_var 1) ppa_nil))))
    (ppss_one (pps_if (ppt_not (ppt_val (ppe_callB (cr_all rfl) cp_all (by rfl) Z.z_all (by decide +kernel) (ppa_cons (ppe_lcL (own := [("_law_turn", 3)]) rfl sc_law.nd (ppi_range1 (by rfl) Z.z_range (ppa_cons ppe_int ppa_nil)) (blkOk_by (N := NN_law) (sc := defScope s_law) (by decide +kernel)) (fun _ _ _ _ _ => ((ptg_name (i := 3) sc_law.nd)).lift) (fun _ _ _ _ _ => (ppts_nil).lift) (fun _ _ _ _ _ => ((ppe_frz (ppc_callB 2 O__law_right hr (by rfl) Z.m__law_right Z.F__law_right.kp Z.b__law_right ppa_nil))).lift)) ppa_nil))))
    (ppss_one (pps_ret (ppc_val ppe_bl)))
    ppss_nil))))
    (ppss_one (pps_ret (ppc_val ppe_bl))))⟩
set_option maxHeartbeats 4000000 in
theorem bdx_order_for {k : Nat} {g_is_core : FA} (O_is_core : FnOk P w K mg base CX0 k Z.f_is_core Z.fd_is_core [("thing" : Str)] (spA K 1 g_is_core)) {g_alike : FA} (O_alike : FnOk P w K mg base CX0 k Z.f_alike Z.fd_alike [("one" : Str), ("other" : Str)] (spA K 2 g_alike)) {g_almanac_of : FA} (O_almanac_of : FnOk P w K mg base CX0 k Z.f_almanac_of Z.fd_almanac_of [("cuts" : Str), ("fills" : Str), ("order" : Str)] (spA K 3 g_almanac_of)) {g_first_clash : FA} (O_first_clash : FnOk P w K mg base CX0 k Z.f_first_clash Z.fd_first_clash [("words" : Str)] (spA K 1 g_first_clash)) {g_order_at : FA} (O_order_at : FnOk P w K mg base CX0 k Z.f_order_at Z.fd_order_at [("cuts" : Str), ("fills" : Str), ("words" : Str), ("number" : Str)] (spA K 4 g_order_at)) {g_words_for : FA} (O_words_for : FnOk P w K mg base CX0 k Z.f_words_for Z.fd_words_for [("cuts" : Str), ("fills" : Str), ("winds" : Str)] (spA K 3 g_words_for)) {gx_order_at : FX} (OX_order_at : FnOk P w K mg base (L2.CX P w) k Z.f_order_at Z.fd_order_at [("cuts" : Str), ("fills" : Str), ("words" : Str), ("number" : Str)] (spX K 4 gx_order_at)) {ok_NoCore : D → Prop} (OI_NoCore : FnOk P w K mg base CX0 k Z.fI_NoCore Z.fdI_NoCore ["self", "core"] (spI K "NoCore" Z.C_NoCore ok_NoCore)) : ∀ (cdv : Value) (A : Around) (outer : List Env) (s : Shared) (H : Hp) (E : XK), Room (k + 1) (A.deeper (envOfC "order_for" (defScope s_order_for) s.heap.objs.size Z.f_order_for cdv)) → ∃ t, PXSs (cxOf (L2.CX P w) P w K mg base NN_order_for "order_for" (defScope s_order_for) Z.f_order_for cdv A outer s H E) (fun cls d _ H => E cls d H) (defBody s_order_for) t (TX_order_for g_is_core g_alike g_almanac_of g_first_clash g_order_at g_words_for gx_order_at ok_NoCore) :=
  fun cdv A outer s H E hr => ⟨_, (pxss_cons (pxs_ok (pps_setLcV (i := 4) (own := [("wind", 3)]) rfl sc_order_for.nd (ppi_seq (ppe_var 2)) (blkOk_by (N := NN_order_for) (sc := defScope s_order_for) (by decide +kernel)) (fun _ _ _ _ _ => ((ptg_name (i := 3) sc_order_for.nd)).lift) (fun _ _ _ _ _ => (ppts_nil).lift) (fun _ _ _ _ _ => ((ppe_callTy call_tuple_of cp_tup (by rfl) Z.z_tuple (by decide +kernel) (ppa_cons (ppe_var 3) ppa_nil))).lift)))
    (pxss_cons (pxs_ok (pps_set (i := 5) sc_order_for.nd (ppc_callA O_words_for (hr.mono (Nat.le_succ _)) (by rfl) Z.m_words_for Z.F_words_for.kp Z.b_words_for (ppa_cons (ppe_var 0) (ppa_cons (ppe_var 1) (ppa_cons (ppe_var 4) ppa_nil))))))
    (pxss_cons (pxs_if (PPW.ppt (ppw_or (ppt_not (ppt_val (ppe_frz (ppc_callA O_is_core (hr.mono (Nat.le_succ _)) (by rfl) Z.m_is_core Z.F_is_core.kp Z.b_is_core (ppa_cons (ppe_var 4) ppa_nil))))) (ppw_or1 (ppt_cmp cm_notN (ppe_frz (ppc_callA O_first_clash (hr.mono (Nat.le_succ _)) (by rfl) Z.m_first_clash Z.F_first_clash.kp Z.b_first_clash (ppa_cons (ppe_var 5) ppa_nil))) ppe_non (nomark _)))))
    (pxss_one (pxs_raise rfl (takes_of rfl rfl rfl rfl) (XB.over (xb "NoCore")) Z.x_NoCore.own Z.x_NoCore.ns Z.iC_NoCore Z.tI_NoCore OI_NoCore hr Z.bI_NoCore (by rfl) Z.x_NoCore.gm (ppa_cons (ppe_var 2) ppa_nil)))
    pxss_nil)
    (pxss_cons (pxs_or (pps_set (i := 6) sc_order_for.nd (ppc_callA O_order_at (hr.mono (Nat.le_succ _)) (by rfl) Z.m_order_at Z.F_order_at.kp Z.b_order_at (ppa_cons (ppe_var 0) (ppa_cons (ppe_var 1) (ppa_cons (ppe_var 5) (ppa_cons ppe_int ppa_nil))))))
    (pxs_set (i := 6) sc_order_for.nd (pxe_call OX_order_at (takes_of rfl rfl rfl rfl) (hr.mono (Nat.le_succ _)) (by rfl) Z.m_order_at Z.F_order_at.kp Z.b_order_at (ppa_cons (ppe_var 0) (ppa_cons (ppe_var 1) (ppa_cons (ppe_var 5) (ppa_cons ppe_int ppa_nil)))))))
    (pxss_cons (pxs_if (ppt_not (ppt_val (ppe_frz (ppc_callA O_alike (hr.mono (Nat.le_succ _)) (by rfl) Z.m_alike Z.F_alike.kp Z.b_alike (ppa_cons (ppe_frz (ppc_callA O_almanac_of (hr.mono (Nat.le_succ _)) (by rfl) Z.m_almanac_of Z.F_almanac_of.kp Z.b_almanac_of (ppa_cons (ppe_var 0) (ppa_cons (ppe_var 1) (ppa_cons (ppe_var 6) ppa_nil))))) (ppa_cons (ppe_var 4) ppa_nil))))))
    (pxss_one (pxs_raise rfl (takes_of rfl rfl rfl rfl) (XB.over (xb "NoCore")) Z.x_NoCore.own Z.x_NoCore.ns Z.iC_NoCore Z.tI_NoCore OI_NoCore hr Z.bI_NoCore (by rfl) Z.x_NoCore.gm (ppa_cons (ppe_var 2) ppa_nil)))
    pxss_nil)
    (pxss_one (pxs_ok (pps_ret (ppc_move 6)))))))))⟩
set_option maxHeartbeats 4000000 in
theorem bdx_order_at {k : Nat} {g_ways_on : FA} (O_ways_on : FnOk P w K mg base CX0 k Z.f_ways_on Z.fd_ways_on [("cuts" : Str), ("fills" : Str), ("words" : Str)] (spA K 3 g_ways_on)) {gx_ways_on : FX} (OX_ways_on : FnOk P w K mg base (L2.CX P w) k Z.f_ways_on Z.fd_ways_on [("cuts" : Str), ("fills" : Str), ("words" : Str)] (spX K 3 gx_ways_on)) {ok_NoOrder : D → Prop} (OI_NoOrder : FnOk P w K mg base CX0 k Z.fI_NoOrder Z.fdI_NoOrder ["self", "number"] (spI K "NoOrder" Z.C_NoOrder ok_NoOrder)) : ∀ (cdv : Value) (A : Around) (outer : List Env) (s : Shared) (H : Hp) (E : XK), Room (k + 1) (A.deeper (envOfC "order_at" (defScope s_order_at) s.heap.objs.size Z.f_order_at cdv)) → ∃ t, PXSs (cxOf (L2.CX P w) P w K mg base NN_order_at "order_at" (defScope s_order_at) Z.f_order_at cdv A outer s H E) (fun cls d _ H => E cls d H) (defBody s_order_at) t (TX_order_at g_ways_on gx_ways_on ok_NoOrder) :=
  fun cdv A outer s H E hr => ⟨_, (pxss_cons (pxs_or (pps_set (i := 4) sc_order_at.nd (ppc_callA O_ways_on (hr.mono (Nat.le_succ _)) (by rfl) Z.m_ways_on Z.F_ways_on.kp Z.b_ways_on (ppa_cons (ppe_var 0) (ppa_cons (ppe_var 1) (ppa_cons (ppe_var 2) ppa_nil)))))
    (pxs_set (i := 4) sc_order_at.nd (pxe_call OX_ways_on (takes_of rfl rfl rfl rfl) (hr.mono (Nat.le_succ _)) (by rfl) Z.m_ways_on Z.F_ways_on.kp Z.b_ways_on (ppa_cons (ppe_var 0) (ppa_cons (ppe_var 1) (ppa_cons (ppe_var 2) ppa_nil))))))
    (pxss_cons (pxs_if (ppt_not (ppt_chain cm_le cm_lt ppe_int (ppe_var 3) (ppe_ix (ppe_ixO 4 ppe_int) ppe_int)))
    (pxss_one (pxs_raise rfl (takes_of rfl rfl rfl rfl) (XB.over (xb "NoOrder")) Z.x_NoOrder.own Z.x_NoOrder.ns Z.iC_NoOrder Z.tI_NoOrder OI_NoOrder hr Z.bI_NoOrder (by rfl) Z.x_NoOrder.gm (ppa_cons (ppe_var 3) ppa_nil)))
    pxss_nil)
    (pxss_cons (pxs_ok (pps_set (i := 5) sc_order_at.nd (ppc_lst ppa_nil)))
    (pxss_cons (pxs_ok (pps_set (i := 6) sc_order_at.nd (ppc_val ppe_int)))
    (pxss_cons (pxs_ok (pps_set (i := 7) sc_order_at.nd (ppc_val ppe_int)))
    (pxss_cons (pxs_ok (pps_set (i := 8) sc_order_at.nd (ppc_val (ppe_var 3))))
    (pxss_cons (pxs_ok (pps_while (passes_of rfl) (PPW.ppt (ppw_or (ppt_cmp cm_lt (ppe_var 6) (ppe_lenO 0 (by rfl) Z.z_len) (nomark _)) (ppw_or1 (ppt_cmp cm_lt (ppe_var 7) (ppe_lenO 1 (by rfl) Z.z_len) (nomark _)))))
    (ppss_cons (pps_set (i := 9) sc_order_at.nd (ppc_val (ppe_ix (ppe_ixO 4 (ppe_var 7)) (ppe_add (ppe_var 6) ppe_int))))
    (ppss_one (pps_if (ppt_cmp cm_lt (ppe_var 8) (ppe_var 9) (nomark _))
    (ppss_cons (pps_append 5 ppe_str)
    (ppss_one (pps_augAdd (i := 6) sc_order_at.nd ppe_int)))
    (ppss_cons (pps_append 5 ppe_str)
    (ppss_cons (pps_augAdd (i := 7) sc_order_at.nd ppe_int)
    (ppss_one (pps_augSub (i := 8) sc_order_at.nd (ppe_var 9))))))))))
    (pxss_one (pxs_ok (pps_ret (ppc_val (ppe_join ppe_str (ppe_var 5)))))))))))))⟩
set_option maxHeartbeats 4000000 in
theorem bdx_ways_on {k : Nat} {g_bounds : FA} (O_bounds : FnOk P w K mg base CX0 k Z.f_bounds Z.fd_bounds [("cuts" : Str), ("fills" : Str), ("words" : Str)] (spA K 3 g_bounds)) {g_ways_ahead : FA} (O_ways_ahead : FnOk P w K mg base CX0 k Z.f_ways_ahead Z.fd_ways_ahead [("later" : Str), ("least" : Str), ("most" : Str)] (spA K 3 g_ways_ahead)) {gx_bounds : FX} (OX_bounds : FnOk P w K mg base (L2.CX P w) k Z.f_bounds Z.fd_bounds [("cuts" : Str), ("fills" : Str), ("words" : Str)] (spX K 3 gx_bounds)) : ∀ (cdv : Value) (A : Around) (outer : List Env) (s : Shared) (H : Hp) (E : XK), Room (k + 1) (A.deeper (envOfC "ways_on" (defScope s_ways_on) s.heap.objs.size Z.f_ways_on cdv)) → ∃ t, PXSs (cxOf (L2.CX P w) P w K mg base NN_ways_on "ways_on" (defScope s_ways_on) Z.f_ways_on cdv A outer s H E) (fun cls d _ H => E cls d H) (defBody s_ways_on) t (TX_ways_on g_bounds g_ways_ahead gx_bounds) :=
  fun cdv A outer s H E hr => ⟨_, (pxss_cons (pxs_ok (pps_set (i := 3) sc_ways_on.nd (ppc_lst (ppa_cons (ppe_add (ppe_rep (ppe_lst (ppa_cons ppe_int ppa_nil)) (ppe_add (ppe_lenO 0 (by rfl) Z.z_len) ppe_int)) (ppe_lst (ppa_cons ppe_int ppa_nil))) ppa_nil))))
    (pxss_cons (pxs_or (pps_for (passes_of rfl) rfl (ppi_seq (ppe_rev (ppe_frz (ppc_callA O_bounds (hr.mono (Nat.le_succ _)) (by rfl) Z.m_bounds Z.F_bounds.kp Z.b_bounds (ppa_cons (ppe_var 0) (ppa_cons (ppe_var 1) (ppa_cons (ppe_var 2) ppa_nil))))))) (ptg_tup (n := 2) rfl (ptgs_cons (ptg_name (i := 4) sc_ways_on.nd) (ptgs_cons (ptg_name (i := 5) sc_ways_on.nd) ptgs_nil)))
    (ppss_one (pps_append 3 (ppe_frz (ppc_callA O_ways_ahead (hr.mono (Nat.le_succ _)) (by rfl) Z.m_ways_ahead Z.F_ways_ahead.kp Z.b_ways_ahead (ppa_cons (ppe_ixO 3 (ppe_neg ppe_int)) (ppa_cons (ppe_var 4) (ppa_cons (ppe_var 5) ppa_nil))))))))
    (pxs_forX (passes_of rfl) rfl (pxi_seq (pxe_rev (pxe_call OX_bounds (takes_of rfl rfl rfl rfl) (hr.mono (Nat.le_succ _)) (by rfl) Z.m_bounds Z.F_bounds.kp Z.b_bounds (ppa_cons (ppe_var 0) (ppa_cons (ppe_var 1) (ppa_cons (ppe_var 2) ppa_nil)))))) (ptg_tup (n := 2) rfl (ptgs_cons (ptg_name (i := 4) sc_ways_on.nd) (ptgs_cons (ptg_name (i := 5) sc_ways_on.nd) ptgs_nil)))
    (ppss_one (pps_append 3 (ppe_frz (ppc_callA O_ways_ahead (hr.mono (Nat.le_succ _)) (by rfl) Z.m_ways_ahead Z.F_ways_ahead.kp Z.b_ways_ahead (ppa_cons (ppe_ixO 3 (ppe_neg ppe_int)) (ppa_cons (ppe_var 4) (ppa_cons (ppe_var 5) ppa_nil)))))))))
    (pxss_one (pxs_ok (pps_ret (ppc_val (ppe_rev (ppe_var 3))))))))⟩
set_option maxHeartbeats 4000000 in
theorem bdx_bounds {k : Nat} {g_refuse_clash : FA} (O_refuse_clash : FnOk P w K mg base CX0 k Z.f_refuse_clash Z.fd_refuse_clash [("words" : Str)] (spA K 1 g_refuse_clash)) {g_least_ahead : FA} (O_least_ahead : FnOk P w K mg base CX0 k Z.f_least_ahead Z.fd_least_ahead [("words" : Str), ("fill" : Str)] (spA K 2 g_least_ahead)) {g_most_ahead : FA} (O_most_ahead : FnOk P w K mg base CX0 k Z.f_most_ahead Z.fd_most_ahead [("cuts" : Str), ("words" : Str), ("fill" : Str)] (spA K 3 g_most_ahead)) {gx_refuse_clash : FX} (OX_refuse_clash : FnOk P w K mg base (L2.CX P w) k Z.f_refuse_clash Z.fd_refuse_clash [("words" : Str)] (spX K 1 gx_refuse_clash)) : ∀ (cdv : Value) (A : Around) (outer : List Env) (s : Shared) (H : Hp) (E : XK), Room (k + 1) (A.deeper (envOfC "bounds" (defScope s_bounds) s.heap.objs.size Z.f_bounds cdv)) → ∃ t, PXSs (cxOf (L2.CX P w) P w K mg base NN_bounds "bounds" (defScope s_bounds) Z.f_bounds cdv A outer s H E) (fun cls d _ H => E cls d H) (defBody s_bounds) t (TX_bounds g_refuse_clash g_least_ahead g_most_ahead gx_refuse_clash) :=
  fun cdv A outer s H E hr => ⟨_, (pxss_cons (pxs_or (pps_expr (ppe_frz (ppc_callA O_refuse_clash (hr.mono (Nat.le_succ _)) (by rfl) Z.m_refuse_clash Z.F_refuse_clash.kp Z.b_refuse_clash (ppa_cons (ppe_var 2) ppa_nil))))
    (pxs_expr (pxe_call OX_refuse_clash (takes_of rfl rfl rfl rfl) (hr.mono (Nat.le_succ _)) (by rfl) Z.m_refuse_clash Z.F_refuse_clash.kp Z.b_refuse_clash (ppa_cons (ppe_var 2) ppa_nil))))
    (pxss_one (pxs_ok (pps_ret (ppc_lcL (own := [("fill", 3)]) rfl sc_bounds.nd (ppi_range1 (by rfl) Z.z_range (ppa_cons (ppe_lenO 1 (by rfl) Z.z_len) ppa_nil)) (blkOk_by (N := NN_bounds) (sc := defScope s_bounds) (by decide +kernel)) (fun _ _ _ _ _ => ((ptg_name (i := 3) sc_bounds.nd)).lift) (fun _ _ _ _ _ => (ppts_nil).lift) (fun _ _ _ _ _ => ((ppe_tup (ppa_cons (ppe_frz (ppc_callA O_least_ahead (hr.mono (Nat.le_succ _)) (by rfl) Z.m_least_ahead Z.F_least_ahead.kp Z.b_least_ahead (ppa_cons (ppe_var 2) (ppa_cons (ppe_var 3) ppa_nil)))) (ppa_cons (ppe_frz (ppc_callA O_most_ahead (hr.mono (Nat.le_succ _)) (by rfl) Z.m_most_ahead Z.F_most_ahead.kp Z.b_most_ahead (ppa_cons (ppe_var 0) (ppa_cons (ppe_var 2) (ppa_cons (ppe_var 3) ppa_nil))))) ppa_nil)))).lift))))))⟩
set_option maxHeartbeats 4000000 in
theorem bdx_refuse_clash {k : Nat} {g_first_clash : FA} (O_first_clash : FnOk P w K mg base CX0 k Z.f_first_clash Z.fd_first_clash [("words" : Str)] (spA K 1 g_first_clash)) {ok_Clash : D → Prop} (OI_Clash : FnOk P w K mg base CX0 k Z.fI_Clash Z.fdI_Clash ["self", "places"] (spI K "Clash" Z.C_Clash ok_Clash)) : ∀ (cdv : Value) (A : Around) (outer : List Env) (s : Shared) (H : Hp) (E : XK), Room (k + 1) (A.deeper (envOfC "refuse_clash" (defScope s_refuse_clash) s.heap.objs.size Z.f_refuse_clash cdv)) → ∃ t, PXSs (cxOf (L2.CX P w) P w K mg base NN_refuse_clash "refuse_clash" (defScope s_refuse_clash) Z.f_refuse_clash cdv A outer s H E) (fun cls d _ H => E cls d H) (defBody s_refuse_clash) t (TX_refuse_clash g_first_clash ok_Clash) :=
  fun cdv A outer s H E hr => ⟨_, (pxss_cons (pxs_ok (pps_set (i := 1) sc_refuse_clash.nd (ppc_callA O_first_clash (hr.mono (Nat.le_succ _)) (by rfl) Z.m_first_clash Z.F_first_clash.kp Z.b_first_clash (ppa_cons (ppe_var 0) ppa_nil))))
    (pxss_one (pxs_if (ppt_cmp cm_notN (ppe_var 1) ppe_non (nomark _))
    (pxss_one (pxs_raise rfl (takes_of rfl rfl rfl rfl) (XB.over (xb "Clash")) Z.x_Clash.own Z.x_Clash.ns Z.iC_Clash Z.tI_Clash OI_Clash hr Z.bI_Clash (by rfl) Z.x_Clash.gm (ppa_cons (ppe_var 1) ppa_nil)))
    pxss_nil)))⟩
theorem bdI_Clash {k : Nat} {ok : D → Prop} {g_own_copy : FA} (O_own_copy : FnOk P w K mg base CX0 k Z.f_own_copy Z.fd_own_copy [("thing" : Str)] (spA K 1 g_own_copy)) (hg : ∀ d, ok d → ∀ P : Cell → Prop, (∀ c, c.froz = d → P c) → g_own_copy [d] P) : FnOk P w K mg base CX0 (k + 1) Z.fI_Clash Z.fdI_Clash ["self", "places"] (spI K "Clash" Z.C_Clash ok) :=
  ok_init (m := "no order has both of these words") Z.FI_Clash ⟨rfl, rfl, rfl, by decide +kernel, rfl, by decide +kernel, by decide +kernel⟩ Z.x_Clash fun cdv A outer s H E hr => ⟨_, (rdi_call hg), pss_cons (ps_expr (pe_oyinit (B := (xb "Clash").nm) (XB.over (xb "Clash")) (by rfl) Z.z_ValueError Z.vI_Clash (pa_cons (pe_var (i := 0) rfl (.inl rfl) (by decide) (by decide)) (pa_cons pe_str pa_nil)))) (pss_one (ps_oyst (XB.over (xb "Clash")) (pe_var (i := 0) rfl (.inl rfl) (by decide) (by decide)) (pe_call O_own_copy hr (by rfl) Z.m_own_copy Z.F_own_copy.kp Z.b_own_copy .nil pass0 (pa_cons (pe_var (i := 1) rfl (.inl rfl) (by decide) (by decide)) pa_nil) (by decide) (by rfl) (by rfl))))⟩
theorem bdI_NoCore {k : Nat} {ok : D → Prop} {g_own_copy : FA} (O_own_copy : FnOk P w K mg base CX0 k Z.f_own_copy Z.fd_own_copy [("thing" : Str)] (spA K 1 g_own_copy)) (hg : ∀ d, ok d → ∀ P : Cell → Prop, (∀ c, c.froz = d → P c) → g_own_copy [d] P) : FnOk P w K mg base CX0 (k + 1) Z.fI_NoCore Z.fdI_NoCore ["self", "core"] (spI K "NoCore" Z.C_NoCore ok) :=
  ok_init (m := "no order has this core") Z.FI_NoCore ⟨rfl, rfl, rfl, by decide +kernel, rfl, by decide +kernel, by decide +kernel⟩ Z.x_NoCore fun cdv A outer s H E hr => ⟨_, (rdi_call hg), pss_cons (ps_expr (pe_oyinit (B := (xb "NoCore").nm) (XB.over (xb "NoCore")) (by rfl) Z.z_LookupError Z.vI_NoCore (pa_cons (pe_var (i := 0) rfl (.inl rfl) (by decide) (by decide)) (pa_cons pe_str pa_nil)))) (pss_one (ps_oyst (XB.over (xb "NoCore")) (pe_var (i := 0) rfl (.inl rfl) (by decide) (by decide)) (pe_call O_own_copy hr (by rfl) Z.m_own_copy Z.F_own_copy.kp Z.b_own_copy .nil pass0 (pa_cons (pe_var (i := 1) rfl (.inl rfl) (by decide) (by decide)) pa_nil) (by decide) (by rfl) (by rfl))))⟩
theorem bdI_NoOrder {k : Nat} {ok : D → Prop} : FnOk P w K mg base CX0 (k + 1) Z.fI_NoOrder Z.fdI_NoOrder ["self", "number"] (spI K "NoOrder" Z.C_NoOrder ok) :=
  ok_init (m := "there is no order of this number") Z.FI_NoOrder ⟨rfl, rfl, rfl, by decide +kernel, rfl, by decide +kernel, by decide +kernel⟩ Z.x_NoOrder fun cdv A outer s H E hr => ⟨_, rdi_var, pss_cons (ps_expr (pe_oyinit (B := (xb "NoOrder").nm) (XB.over (xb "NoOrder")) (by rfl) Z.z_LookupError Z.vI_NoOrder (pa_cons (pe_var (i := 0) rfl (.inl rfl) (by decide) (by decide)) (pa_cons pe_str pa_nil)))) (pss_one (ps_oyst (XB.over (xb "NoOrder")) (pe_var (i := 0) rfl (.inl rfl) (by decide) (by decide)) (pe_var (i := 1) rfl (.inl rfl) (by decide) (by decide))))⟩
end
section
variable {P : Program} {w : World} {K : PySem.W.Frag} {mg : Str → Option Value} {base : Heap} (Z : Tx K mg)
include Z
theorem ok_is_number : FnOk P w K mg base CX0 1 Z.f_is_number Z.fd_is_number ["thing"] (spA K 1 g_is_number) := okA Z.F_is_number sc_is_number (bd_is_number Z (k := 0) ) rd_is_number
theorem ok_is_wind : FnOk P w K mg base CX0 2 Z.f_is_wind Z.fd_is_wind ["thing"] (spA K 1 g_is_windS) := okA Z.F_is_wind sc_is_wind (bd_is_wind Z (k := 1) ((ok_is_number Z).mono (by decide))) rd_is_windS
theorem ok_is_almanac : FnOk P w K mg base CX0 3 Z.f_is_almanac Z.fd_is_almanac ["thing"] (spA K 1 g_is_almanacS) := okA Z.F_is_almanac sc_is_almanac (bd_is_almanac Z (k := 2) ((ok_is_wind Z).mono (by decide))) rd_is_almanacS
theorem ok_gentler_ones : FnOk P w K mg base CX0 1 Z.f_gentler_ones Z.fd_gentler_ones ["almanac"] (spA K 1 g_gentler_ones) := okA Z.F_gentler_ones sc_gentler_ones (bd_gentler_ones Z (k := 0) ) rd_gentler_ones
theorem ok_core : FnOk P w K mg base CX0 2 Z.f_core Z.fd_core ["almanac"] (spA K 1 g_core) := okA Z.F_core sc_core (bd_core Z (k := 1) ((ok_gentler_ones Z).mono (by decide))) rd_core
theorem ok_is_core : FnOk P w K mg base CX0 4 Z.f_is_core Z.fd_is_core ["thing"] (spA K 1 g_is_coreS) := okA Z.F_is_core sc_is_core (bd_is_core Z (k := 3) ((ok_is_almanac Z).mono (by decide)) ((ok_core Z).mono (by decide))) rd_is_coreS
theorem ok_alike : FnOk P w K mg base CX0 3 Z.f_alike Z.fd_alike ["one", "other"] (spA K 2 g_alike) := okA Z.F_alike sc_alike (bd_alike Z (k := 2) ((ok_core Z).mono (by decide))) rd_alike
theorem ok_first_to_shift : FnOk P w K mg base CX0 1 Z.f_first_to_shift Z.fd_first_to_shift ["almanac", "slope"] (spA K 2 g_first_to_shift) := okA Z.F_first_to_shift sc_first_to_shift (bd_first_to_shift Z (k := 0) ) rd_first_to_shift
theorem ok_almanac_of : FnOk P w K mg base CX0 1 Z.f_almanac_of Z.fd_almanac_of ["cuts", "fills", "order"] (spA K 3 g_almanac_of) := okA Z.F_almanac_of sc_almanac_of (bd_almanac_of Z (k := 0) ) rd_almanac_of
theorem ok_are_contrary : FnOk P w K mg base CX0 1 Z.f_are_contrary Z.fd_are_contrary ["one", "other"] (spA K 2 g_are_contraryA) := okA Z.F_are_contrary sc_are_contrary (bd_are_contrary Z (k := 0) ) rd_are_contraryA
theorem ok_first_clash : FnOk P w K mg base CX0 2 Z.f_first_clash Z.fd_first_clash ["words"] (spA K 1 g_first_clashG) := okA Z.F_first_clash sc_first_clash (bd_first_clash Z (k := 1) ((ok_are_contrary Z).mono (by decide))) rd_first_clashG
theorem ok_refuse_clash : FnOk P w K mg base CX0 3 Z.f_refuse_clash Z.fd_refuse_clash ["words"] (spA K 1 g_refuse_clashG) := okA Z.F_refuse_clash sc_refuse_clash (bd_refuse_clash Z (k := 2) ((ok_first_clash Z).mono (by decide))) rd_refuse_clashG
theorem ok_least_ahead : FnOk P w K mg base CX0 1 Z.f_least_ahead Z.fd_least_ahead ["words", "fill"] (spA K 2 g_least_aheadA) := okA Z.F_least_ahead sc_least_ahead (bd_least_ahead Z (k := 0) ) rd_least_aheadA
theorem ok_most_ahead : FnOk P w K mg base CX0 1 Z.f_most_ahead Z.fd_most_ahead ["cuts", "words", "fill"] (spA K 3 g_most_aheadA) := okA Z.F_most_ahead sc_most_ahead (bd_most_ahead Z (k := 0) ) rd_most_aheadA
theorem ok_bounds : FnOk P w K mg base CX0 4 Z.f_bounds Z.fd_bounds ["cuts", "fills", "words"] (spA K 3 g_boundsA) := okA Z.F_bounds sc_bounds (bd_bounds Z (k := 3) ((ok_refuse_clash Z).mono (by decide)) ((ok_least_ahead Z).mono (by decide)) ((ok_most_ahead Z).mono (by decide))) rd_boundsA
theorem ok_ways_ahead : FnOk P w K mg base CX0 1 Z.f_ways_ahead Z.fd_ways_ahead ["later", "least", "most"] (spA K 3 g_ways_ahead) := okA Z.F_ways_ahead sc_ways_ahead (bd_ways_ahead Z (k := 0) ) rd_ways_ahead
theorem ok_ways_on : FnOk P w K mg base CX0 5 Z.f_ways_on Z.fd_ways_on ["cuts", "fills", "words"] (spA K 3 g_ways_onA) := okA Z.F_ways_on sc_ways_on (bd_ways_on Z (k := 4) ((ok_bounds Z).mono (by decide)) ((ok_ways_ahead Z).mono (by decide))) rd_ways_onA
theorem ok_order_at : FnOk P w K mg base CX0 6 Z.f_order_at Z.fd_order_at ["cuts", "fills", "words", "number"] (spA K 4 (g_order_atG g_ways_onA)) := okA Z.F_order_at sc_order_at (bd_order_at Z (k := 5) ((ok_ways_on Z).mono (by decide))) rd_order_atG
theorem ok_first_gentle : FnOk P w K mg base CX0 1 Z.f_first_gentle Z.fd_first_gentle ["slopes", "slope"] (spA K 2 g_first_gentle) := okA Z.F_first_gentle sc_first_gentle (bd_first_gentle Z (k := 0) ) rd_first_gentle
theorem ok_meetings : FnOk P w K mg base CX0 2 Z.f_meetings Z.fd_meetings ["cuts", "fills"] (spA K 2 g_meetings) := okA Z.F_meetings sc_meetings (bd_meetings Z (k := 1) ((ok_first_gentle Z).mono (by decide))) rd_meetings
theorem ok_both_words : FnOk P w K mg base CX0 1 Z.f_both_words Z.fd_both_words ["pair"] (spA K 1 g_both_words) := okA Z.F_both_words sc_both_words (bd_both_words Z (k := 0) ) rd_both_words
theorem ok_words_for : FnOk P w K mg base CX0 3 Z.f_words_for Z.fd_words_for ["cuts", "fills", "winds"] (spA K 3 g_words_for) := okA Z.F_words_for sc_words_for (bd_words_for Z (k := 2) ((ok_first_to_shift Z).mono (by decide)) ((ok_meetings Z).mono (by decide)) ((ok_both_words Z).mono (by decide))) rd_words_for
theorem ok_order_for : FnOk P w K mg base CX0 7 Z.f_order_for Z.fd_order_for ["cuts", "fills", "core"] (spA K 3 g_order_for) := okA Z.F_order_for sc_order_for (bd_order_for Z (k := 6) ((ok_is_core Z).mono (by decide)) ((ok_alike Z).mono (by decide)) ((ok_almanac_of Z).mono (by decide)) ((ok_first_clash Z).mono (by decide)) ((ok_order_at Z).mono (by decide)) ((ok_words_for Z).mono (by decide))) rd_order_for
theorem ok__law_cell_at : FnOk P w K mg base CX0 1 Z.f__law_cell_at Z.fd__law_cell_at ["_law_script", "_law_k"] (spA K 2 g__law_cell_at) := okA Z.F__law_cell_at sc__law_cell_at (bd__law_cell_at Z (k := 0) ) rd__law_cell_at
theorem ok__law_box : FnOk P w K mg base CX0 2 Z.f__law_box Z.fd__law_box ["_law_script", "_law_k"] (spA K 2 g__law_box) := okA Z.F__law_box sc__law_box (bd__law_box Z (k := 1) ((ok__law_cell_at Z).mono (by decide))) rd__law_box
theorem ok__law_take_0 : FnOk P w K mg base CX0 1 Z.f__law_take Z.fd__law_take ["_law_box_here", "_law_size"] (spB K 2 g_take0) := okB Z.F__law_take sc__law_take (bd__law_take Z (k := 0) (fnNoneB Z.F__law_take)) rd_take0
theorem ok__law_take : FnOk P w K mg base CX0 2 Z.f__law_take Z.fd__law_take ["_law_box_here", "_law_size"] (spB K 2 (g_take 100000000000000)) := okB Z.F__law_take sc__law_take (bd__law_take Z (k := 1) ((ok__law_take_0 Z).mono (by decide))) rd_take
theorem ok__law_of : FnOk P w K mg base CX0 3 Z.f__law_of Z.fd__law_of ["_law_box_here", "_law_some"] (spB K 2 g__law_of) := okB Z.F__law_of sc__law_of (bd__law_of Z (k := 2) ((ok__law_take Z).mono (by decide))) rd__law_of
theorem ok__law_same_0 : FnOk P w K mg base CX0 1 Z.f__law_same Z.fd__law_same ["_law_told_here", "_law_due"] (spA K 2 (gS 1)) := okA Z.F__law_same sc__law_same (bd__law_same Z (k := 0) (fnNoneA Z.F__law_same)) (rd_same 0)
theorem ok__law_same_1 : FnOk P w K mg base CX0 2 Z.f__law_same Z.fd__law_same ["_law_told_here", "_law_due"] (spA K 2 (gS 2)) := okA Z.F__law_same sc__law_same (bd__law_same Z (k := 1) ((ok__law_same_0 Z).mono (by decide))) (rd_same 1)
theorem ok__law_same_2 : FnOk P w K mg base CX0 3 Z.f__law_same Z.fd__law_same ["_law_told_here", "_law_due"] (spA K 2 (gS 3)) := okA Z.F__law_same sc__law_same (bd__law_same Z (k := 2) ((ok__law_same_1 Z).mono (by decide))) (rd_same 2)
theorem ok__law_same : FnOk P w K mg base CX0 4 Z.f__law_same Z.fd__law_same ["_law_told_here", "_law_due"] (spA K 2 (gS 4)) := okA Z.F__law_same sc__law_same (bd__law_same Z (k := 3) ((ok__law_same_2 Z).mono (by decide))) (rd_same 3)
theorem ok__law_slope : FnOk P w K mg base CX0 3 Z.f__law_slope Z.fd__law_slope ["_law_box_here"] (spB K 1 g__law_slope) := okB Z.F__law_slope sc__law_slope (bd__law_slope Z (k := 2) ((ok__law_take Z).mono (by decide))) rd__law_slope
theorem ok__law_core : FnOk P w K mg base CX0 1 Z.f__law_core Z.fd__law_core ["_law_winds"] (spA K 1 g__law_core) := okA Z.F__law_core sc__law_core (bd__law_core Z (k := 0) ) rd__law_core
theorem ok__law_lists_0 : FnOk P w K mg base CX0 1 Z.f__law_lists Z.fd__law_lists ["_law_thing"] (spA K 1 (gL 1)) := okA Z.F__law_lists sc__law_lists (bd__law_lists Z (k := 0) (fnNoneA Z.F__law_lists)) (rd_lists 0)
theorem ok__law_lists_1 : FnOk P w K mg base CX0 2 Z.f__law_lists Z.fd__law_lists ["_law_thing"] (spA K 1 (gL 2)) := okA Z.F__law_lists sc__law_lists (bd__law_lists Z (k := 1) ((ok__law_lists_0 Z).mono (by decide))) (rd_lists 1)
theorem ok__law_lists_2 : FnOk P w K mg base CX0 3 Z.f__law_lists Z.fd__law_lists ["_law_thing"] (spA K 1 (gL 3)) := okA Z.F__law_lists sc__law_lists (bd__law_lists Z (k := 2) ((ok__law_lists_1 Z).mono (by decide))) (rd_lists 2)
theorem ok__law_lists : FnOk P w K mg base CX0 4 Z.f__law_lists Z.fd__law_lists ["_law_thing"] (spA K 1 (gL 4)) := okA Z.F__law_lists sc__law_lists (bd__law_lists Z (k := 3) ((ok__law_lists_2 Z).mono (by decide))) (rd_lists 3)
theorem ok__law_books : FnOk P w K mg base CX0 4 Z.f__law_books Z.fd__law_books ["_law_box_here", "_law_size"] (spB K 2 g__law_books) := okB Z.F__law_books sc__law_books (bd__law_books Z (k := 3) ((ok__law_take Z).mono (by decide)) ((ok__law_slope Z).mono (by decide))) rd__law_books
theorem ok__law_orders_0 : FnOk P w K mg base CX0 1 Z.f__law_orders Z.fd__law_orders ["_law_cuts", "_law_fills"] (spA K 2 (gOr 1)) := okA Z.F__law_orders sc__law_orders (bd__law_orders Z (k := 0) (fnNoneA Z.F__law_orders)) (rd_or 0)
theorem ok__law_orders_1 : FnOk P w K mg base CX0 2 Z.f__law_orders Z.fd__law_orders ["_law_cuts", "_law_fills"] (spA K 2 (gOr 2)) := okA Z.F__law_orders sc__law_orders (bd__law_orders Z (k := 1) ((ok__law_orders_0 Z).mono (by decide))) (rd_or 1)
theorem ok__law_orders_2 : FnOk P w K mg base CX0 3 Z.f__law_orders Z.fd__law_orders ["_law_cuts", "_law_fills"] (spA K 2 (gOr 3)) := okA Z.F__law_orders sc__law_orders (bd__law_orders Z (k := 2) ((ok__law_orders_1 Z).mono (by decide))) (rd_or 2)
theorem ok__law_orders_3 : FnOk P w K mg base CX0 4 Z.f__law_orders Z.fd__law_orders ["_law_cuts", "_law_fills"] (spA K 2 (gOr 4)) := okA Z.F__law_orders sc__law_orders (bd__law_orders Z (k := 3) ((ok__law_orders_2 Z).mono (by decide))) (rd_or 3)
theorem ok__law_orders_4 : FnOk P w K mg base CX0 5 Z.f__law_orders Z.fd__law_orders ["_law_cuts", "_law_fills"] (spA K 2 (gOr 5)) := okA Z.F__law_orders sc__law_orders (bd__law_orders Z (k := 4) ((ok__law_orders_3 Z).mono (by decide))) (rd_or 4)
theorem ok__law_orders_5 : FnOk P w K mg base CX0 6 Z.f__law_orders Z.fd__law_orders ["_law_cuts", "_law_fills"] (spA K 2 (gOr 6)) := okA Z.F__law_orders sc__law_orders (bd__law_orders Z (k := 5) ((ok__law_orders_4 Z).mono (by decide))) (rd_or 5)
theorem ok__law_orders_6 : FnOk P w K mg base CX0 7 Z.f__law_orders Z.fd__law_orders ["_law_cuts", "_law_fills"] (spA K 2 (gOr 7)) := okA Z.F__law_orders sc__law_orders (bd__law_orders Z (k := 6) ((ok__law_orders_5 Z).mono (by decide))) (rd_or 6)
theorem ok__law_orders_7 : FnOk P w K mg base CX0 8 Z.f__law_orders Z.fd__law_orders ["_law_cuts", "_law_fills"] (spA K 2 (gOr 8)) := okA Z.F__law_orders sc__law_orders (bd__law_orders Z (k := 7) ((ok__law_orders_6 Z).mono (by decide))) (rd_or 7)
theorem ok__law_orders_8 : FnOk P w K mg base CX0 9 Z.f__law_orders Z.fd__law_orders ["_law_cuts", "_law_fills"] (spA K 2 (gOr 9)) := okA Z.F__law_orders sc__law_orders (bd__law_orders Z (k := 8) ((ok__law_orders_7 Z).mono (by decide))) (rd_or 8)
theorem ok__law_orders : FnOk P w K mg base CX0 10 Z.f__law_orders Z.fd__law_orders ["_law_cuts", "_law_fills"] (spA K 2 (gOr 10)) := okA Z.F__law_orders sc__law_orders (bd__law_orders Z (k := 9) ((ok__law_orders_8 Z).mono (by decide))) (rd_or 9)
theorem ok__law_almanac : FnOk P w K mg base CX0 1 Z.f__law_almanac Z.fd__law_almanac ["_law_cuts", "_law_fills", "_law_order"] (spA K 3 g__law_almanac) := okA Z.F__law_almanac sc__law_almanac (bd__law_almanac Z (k := 0) ) rd__law_almanac
theorem ok__law_near : FnOk P w K mg base CX0 4 Z.f__law_near Z.fd__law_near ["_law_box_here", "_law_winds"] (spB K 2 g__law_near) := okB Z.F__law_near sc__law_near (bd__law_near Z (k := 3) ((ok__law_take Z).mono (by decide)) ((ok__law_slope Z).mono (by decide))) rd__law_near
theorem ok_own_copy_0 : FnOk P w K mg base CX0 1 Z.f_own_copy Z.fd_own_copy ["thing"] (spA K 1 (gCp 1)) := okA Z.F_own_copy sc_own_copy (bd_own_copy Z (k := 0) (fnNoneA Z.F_own_copy)) (rd_own_copy 0)
theorem ok_own_copy_1 : FnOk P w K mg base CX0 2 Z.f_own_copy Z.fd_own_copy ["thing"] (spA K 1 (gCp 2)) := okA Z.F_own_copy sc_own_copy (bd_own_copy Z (k := 1) ((ok_own_copy_0 Z).mono (by decide))) (rd_own_copy 1)
theorem ok_own_copy_2 : FnOk P w K mg base CX0 3 Z.f_own_copy Z.fd_own_copy ["thing"] (spA K 1 (gCp 3)) := okA Z.F_own_copy sc_own_copy (bd_own_copy Z (k := 2) ((ok_own_copy_1 Z).mono (by decide))) (rd_own_copy 2)
theorem ok_own_copy : FnOk P w K mg base CX0 4 Z.f_own_copy Z.fd_own_copy ["thing"] (spA K 1 (gCp 4)) := okA Z.F_own_copy sc_own_copy (bd_own_copy Z (k := 3) ((ok_own_copy_2 Z).mono (by decide))) (rd_own_copy 3)
theorem okI_Clash : FnOk P w K mg base CX0 5 Z.fI_Clash Z.fdI_Clash ["self", "places"] (spI K "Clash" Z.C_Clash (okN 3)) := bdI_Clash Z (k := 4) (ok_own_copy Z) (fun d h P hP => ⟨d, rfl, h, hP⟩)
theorem okx_refuse_clash : FnOk P w K mg base (L2.CX P w) 7 Z.f_refuse_clash Z.fd_refuse_clash ["words"] (spX K 1 gx_refuse_clash) := okX Z.F_refuse_clash sc_refuse_clash (bdx_refuse_clash Z (k := 5) ((ok_first_clash Z).mono (by decide)) ((okI_Clash Z).mono (by decide))) rdx_refuse_clash
theorem okx_bounds : FnOk P w K mg base (L2.CX P w) 9 Z.f_bounds Z.fd_bounds ["cuts", "fills", "words"] (spX K 3 gx_bounds) := okX Z.F_bounds sc_bounds (bdx_bounds Z (k := 7) ((ok_refuse_clash Z).mono (by decide)) ((ok_least_ahead Z).mono (by decide)) ((ok_most_ahead Z).mono (by decide)) ((okx_refuse_clash Z).mono (by decide))) rdx_bounds
theorem okx_ways_on : FnOk P w K mg base (L2.CX P w) 11 Z.f_ways_on Z.fd_ways_on ["cuts", "fills", "words"] (spX K 3 gx_ways_on) := okX Z.F_ways_on sc_ways_on (bdx_ways_on Z (k := 9) ((ok_bounds Z).mono (by decide)) ((ok_ways_ahead Z).mono (by decide)) ((okx_bounds Z).mono (by decide))) rdx_ways_on
theorem okI_NoOrder : FnOk P w K mg base CX0 1 Z.fI_NoOrder Z.fdI_NoOrder ["self", "number"] (spI K "NoOrder" Z.C_NoOrder (fun _ => True)) := bdI_NoOrder Z (k := 0)
theorem okx_order_at : FnOk P w K mg base (L2.CX P w) 13 Z.f_order_at Z.fd_order_at ["cuts", "fills", "words", "number"] (spX K 4 gx_order_at) := okX Z.F_order_at sc_order_at (bdx_order_at Z (k := 11) ((ok_ways_on Z).mono (by decide)) ((okx_ways_on Z).mono (by decide)) ((okI_NoOrder Z).mono (by decide))) rdx_order_at
theorem okI_NoCore : FnOk P w K mg base CX0 5 Z.fI_NoCore Z.fdI_NoCore ["self", "core"] (spI K "NoCore" Z.C_NoCore (okN 3)) := bdI_NoCore Z (k := 4) (ok_own_copy Z) (fun d h P hP => ⟨d, rfl, h, hP⟩)
theorem okx_order_for : FnOk P w K mg base (L2.CX P w) 15 Z.f_order_for Z.fd_order_for ["cuts", "fills", "core"] (spX K 3 gx_order_for) := okX Z.F_order_for sc_order_for (bdx_order_for Z (k := 13) ((ok_is_core Z).mono (by decide)) ((ok_alike Z).mono (by decide)) ((ok_almanac_of Z).mono (by decide)) ((ok_first_clash Z).mono (by decide)) ((ok_order_at Z).mono (by decide)) ((ok_words_for Z).mono (by decide)) ((okx_order_at Z).mono (by decide)) ((okI_NoCore Z).mono (by decide))) rdx_order_for
theorem ok__law_told : FnOk P w K mg base CX0 16 Z.f__law_told Z.fd__law_told ["_law_cuts", "_law_fills", "_law_winds"] (spA K 3 g__law_toldN) := okA Z.F__law_told sc__law_told (bd__law_told Z (k := 15) ((ok_order_for Z).mono (by decide)) ((okx_order_for Z).mono (by decide))) rd__law_toldN
theorem ok__law_right : FnOk P w K mg base CX0 17 Z.f__law_right Z.fd__law_right ["_law_box_here"] (spB K 1 g__law_right) := okB Z.F__law_right sc__law_right (bd__law_right Z (k := 16) ((ok__law_of Z).mono (by decide)) ((ok__law_same Z).mono (by decide)) ((ok__law_core Z).mono (by decide)) ((ok__law_lists Z).mono (by decide)) ((ok__law_books Z).mono (by decide)) ((ok__law_orders Z).mono (by decide)) ((ok__law_almanac Z).mono (by decide)) ((ok__law_near Z).mono (by decide)) ((ok__law_told Z).mono (by decide))) (rd__law_right P w)
theorem ok_law : FnOk P w K mg base CX0 18 Z.f_law Z.fd_law ["_law_script"] (spA K 1 g_law) := okA Z.F_law sc_law (bd_law Z (k := 17) ((ok__law_box Z).mono (by decide)) ((ok__law_right Z).mono (by decide))) rd_law
end
set_option maxHeartbeats 4000000 in
theorem all_mk {l : PySem.W.OpenLaw} {w : World} {K : PySem.W.Frag} {h : Heap} {mg : Str → Option Value} {fa : Addr} (X : K.In h) (G : h.Ns mainGlobals mg) (hfa : mg "law" = some (.ref fa)) {f0 : Addr} {od0 an0 : Option Addr} {sl0 : Array (Option Value)} {oc0 kV0 dc0 pm0 cd0 ct0 : Value} {f1 : Addr} {od1 an1 : Option Addr} {sl1 : Array (Option Value)} {oc1 kV1 dc1 pm1 cd1 ct1 : Value} {f2 : Addr} {od2 an2 : Option Addr} {sl2 : Array (Option Value)} {oc2 kV2 dc2 pm2 cd2 ct2 : Value} {f3 : Addr} {od3 an3 : Option Addr} {sl3 : Array (Option Value)} {oc3 kV3 dc3 pm3 cd3 ct3 : Value} {f4 : Addr} {od4 an4 : Option Addr} {sl4 : Array (Option Value)} {oc4 kV4 dc4 pm4 cd4 ct4 : Value} {f5 : Addr} {od5 an5 : Option Addr} {sl5 : Array (Option Value)} {oc5 kV5 dc5 pm5 cd5 ct5 : Value} {f6 : Addr} {od6 an6 : Option Addr} {sl6 : Array (Option Value)} {oc6 kV6 dc6 pm6 cd6 ct6 : Value} {f7 : Addr} {od7 an7 : Option Addr} {sl7 : Array (Option Value)} {oc7 kV7 dc7 pm7 cd7 ct7 : Value} {f8 : Addr} {od8 an8 : Option Addr} {sl8 : Array (Option Value)} {oc8 kV8 dc8 pm8 cd8 ct8 : Value} {f9 : Addr} {od9 an9 : Option Addr} {sl9 : Array (Option Value)} {oc9 kV9 dc9 pm9 cd9 ct9 : Value} {f10 : Addr} {od10 an10 : Option Addr} {sl10 : Array (Option Value)} {oc10 kV10 dc10 pm10 cd10 ct10 : Value} {f11 : Addr} {od11 an11 : Option Addr} {sl11 : Array (Option Value)} {oc11 kV11 dc11 pm11 cd11 ct11 : Value} {f12 : Addr} {od12 an12 : Option Addr} {sl12 : Array (Option Value)} {oc12 kV12 dc12 pm12 cd12 ct12 : Value} {f13 : Addr} {od13 an13 : Option Addr} {sl13 : Array (Option Value)} {oc13 kV13 dc13 pm13 cd13 ct13 : Value} {f14 : Addr} {od14 an14 : Option Addr} {sl14 : Array (Option Value)} {oc14 kV14 dc14 pm14 cd14 ct14 : Value} {f15 : Addr} {od15 an15 : Option Addr} {sl15 : Array (Option Value)} {oc15 kV15 dc15 pm15 cd15 ct15 : Value} {f16 : Addr} {od16 an16 : Option Addr} {sl16 : Array (Option Value)} {oc16 kV16 dc16 pm16 cd16 ct16 : Value} {f17 : Addr} {od17 an17 : Option Addr} {sl17 : Array (Option Value)} {oc17 kV17 dc17 pm17 cd17 ct17 : Value} {f18 : Addr} {od18 an18 : Option Addr} {sl18 : Array (Option Value)} {oc18 kV18 dc18 pm18 cd18 ct18 : Value} {f19 : Addr} {od19 an19 : Option Addr} {sl19 : Array (Option Value)} {oc19 kV19 dc19 pm19 cd19 ct19 : Value} {f20 : Addr} {od20 an20 : Option Addr} {sl20 : Array (Option Value)} {oc20 kV20 dc20 pm20 cd20 ct20 : Value} {f21 : Addr} {od21 an21 : Option Addr} {sl21 : Array (Option Value)} {oc21 kV21 dc21 pm21 cd21 ct21 : Value} {f22 : Addr} {od22 an22 : Option Addr} {sl22 : Array (Option Value)} {oc22 kV22 dc22 pm22 cd22 ct22 : Value} {f23 : Addr} {od23 an23 : Option Addr} {sl23 : Array (Option Value)} {oc23 kV23 dc23 pm23 cd23 ct23 : Value} {f24 : Addr} {od24 an24 : Option Addr} {sl24 : Array (Option Value)} {oc24 kV24 dc24 pm24 cd24 ct24 : Value} {f25 : Addr} {od25 an25 : Option Addr} {sl25 : Array (Option Value)} {oc25 kV25 dc25 pm25 cd25 ct25 : Value} {f26 : Addr} {od26 an26 : Option Addr} {sl26 : Array (Option Value)} {oc26 kV26 dc26 pm26 cd26 ct26 : Value} {f27 : Addr} {od27 an27 : Option Addr} {sl27 : Array (Option Value)} {oc27 kV27 dc27 pm27 cd27 ct27 : Value} {f28 : Addr} {od28 an28 : Option Addr} {sl28 : Array (Option Value)} {oc28 kV28 dc28 pm28 cd28 ct28 : Value} {f29 : Addr} {od29 an29 : Option Addr} {sl29 : Array (Option Value)} {oc29 kV29 dc29 pm29 cd29 ct29 : Value} {f30 : Addr} {od30 an30 : Option Addr} {sl30 : Array (Option Value)} {oc30 kV30 dc30 pm30 cd30 ct30 : Value} {f31 : Addr} {od31 an31 : Option Addr} {sl31 : Array (Option Value)} {oc31 kV31 dc31 pm31 cd31 ct31 : Value} {f32 : Addr} {od32 an32 : Option Addr} {sl32 : Array (Option Value)} {oc32 kV32 dc32 pm32 cd32 ct32 : Value} {f33 : Addr} {od33 an33 : Option Addr} {sl33 : Array (Option Value)} {oc33 kV33 dc33 pm33 cd33 ct33 : Value} {f34 : Addr} {od34 an34 : Option Addr} {sl34 : Array (Option Value)} {oc34 kV34 dc34 pm34 cd34 ct34 : Value} {f35 : Addr} {od35 an35 : Option Addr} {sl35 : Array (Option Value)} {oc35 kV35 dc35 pm35 cd35 ct35 : Value} {f36 : Addr} {od36 an36 : Option Addr} {sl36 : Array (Option Value)} {oc36 kV36 dc36 pm36 cd36 ct36 : Value} {f37 : Addr} {od37 an37 : Option Addr} {sl37 : Array (Option Value)} {oc37 kV37 dc37 pm37 cd37 ct37 : Value} {f38 : Addr} {od38 an38 : Option Addr} {sl38 : Array (Option Value)} {oc38 kV38 dc38 pm38 cd38 ct38 : Value} {xC0 xN0 : Addr} {xq0 : Str} {xbs0 xsub0 : List Value} {xsn0 : List Str} {xab0 : Bool} {xcol0 : Option Bool} {xdd0 : Option Addr} {xm00 xm01 xm02 xm03 xm05 : Option Value} {xfi0 : Addr} {xod0 xan0 : Option Addr} {xsl0 : Array (Option Value)} {xoc0 xkV0 xdc0 xpm0 xcd0 xct0 : Value} {xC1 xN1 : Addr} {xq1 : Str} {xbs1 xsub1 : List Value} {xsn1 : List Str} {xab1 : Bool} {xcol1 : Option Bool} {xdd1 : Option Addr} {xm10 xm11 xm12 xm13 xm15 : Option Value} {xfi1 : Addr} {xod1 xan1 : Option Addr} {xsl1 : Array (Option Value)} {xoc1 xkV1 xdc1 xpm1 xcd1 xct1 : Value} {xC2 xN2 : Addr} {xq2 : Str} {xbs2 xsub2 : List Value} {xsn2 : List Str} {xab2 : Bool} {xcol2 : Option Bool} {xdd2 : Option Addr} {xm20 xm21 xm22 xm23 xm25 : Option Value} {xfi2 : Addr} {xod2 xan2 : Option Addr} {xsl2 : Array (Option Value)} {xoc2 xkV2 xdc2 xpm2 xcd2 xct2 : Value} {xC3 xN3 : Addr} {xq3 : Str} {xbs3 xsub3 : List Value} {xsn3 : List Str} {xab3 : Bool} {xcol3 : Option Bool} {xdd3 : Option Addr} {xm30 xm31 xm32 xm33 xm35 : Option Value}
    (a0 : PySem.W.nsIn K mainGlobals "is_number" = some (some (.ref f0))) (l0 : K.lookup f0 = some ⟨oc0, od0, .func (PySem.W.fnOf "is_number" "is_number" (defArgs s_is_number) (defBody s_is_number) (defScope s_is_number) .none kV0 dc0 pm0 an0 cd0 ct0), sl0⟩) (c0 : PySem.W.codeIn K cd0 "is_number" = true) (k0 : PySem.W.keepIn K (.ref f0) = true)
    (a1 : PySem.W.nsIn K mainGlobals "own_copy" = some (some (.ref f1))) (l1 : K.lookup f1 = some ⟨oc1, od1, .func (PySem.W.fnOf "own_copy" "own_copy" (defArgs s_own_copy) (defBody s_own_copy) (defScope s_own_copy) .none kV1 dc1 pm1 an1 cd1 ct1), sl1⟩) (c1 : PySem.W.codeIn K cd1 "own_copy" = true) (k1 : PySem.W.keepIn K (.ref f1) = true)
    (a2 : PySem.W.nsIn K mainGlobals "is_wind" = some (some (.ref f2))) (l2 : K.lookup f2 = some ⟨oc2, od2, .func (PySem.W.fnOf "is_wind" "is_wind" (defArgs s_is_wind) (defBody s_is_wind) (defScope s_is_wind) .none kV2 dc2 pm2 an2 cd2 ct2), sl2⟩) (c2 : PySem.W.codeIn K cd2 "is_wind" = true) (k2 : PySem.W.keepIn K (.ref f2) = true)
    (a3 : PySem.W.nsIn K mainGlobals "is_almanac" = some (some (.ref f3))) (l3 : K.lookup f3 = some ⟨oc3, od3, .func (PySem.W.fnOf "is_almanac" "is_almanac" (defArgs s_is_almanac) (defBody s_is_almanac) (defScope s_is_almanac) .none kV3 dc3 pm3 an3 cd3 ct3), sl3⟩) (c3 : PySem.W.codeIn K cd3 "is_almanac" = true) (k3 : PySem.W.keepIn K (.ref f3) = true)
    (a4 : PySem.W.nsIn K mainGlobals "gentler_ones" = some (some (.ref f4))) (l4 : K.lookup f4 = some ⟨oc4, od4, .func (PySem.W.fnOf "gentler_ones" "gentler_ones" (defArgs s_gentler_ones) (defBody s_gentler_ones) (defScope s_gentler_ones) .none kV4 dc4 pm4 an4 cd4 ct4), sl4⟩) (c4 : PySem.W.codeIn K cd4 "gentler_ones" = true) (k4 : PySem.W.keepIn K (.ref f4) = true)
    (a5 : PySem.W.nsIn K mainGlobals "core" = some (some (.ref f5))) (l5 : K.lookup f5 = some ⟨oc5, od5, .func (PySem.W.fnOf "core" "core" (defArgs s_core) (defBody s_core) (defScope s_core) .none kV5 dc5 pm5 an5 cd5 ct5), sl5⟩) (c5 : PySem.W.codeIn K cd5 "core" = true) (k5 : PySem.W.keepIn K (.ref f5) = true)
    (a6 : PySem.W.nsIn K mainGlobals "is_core" = some (some (.ref f6))) (l6 : K.lookup f6 = some ⟨oc6, od6, .func (PySem.W.fnOf "is_core" "is_core" (defArgs s_is_core) (defBody s_is_core) (defScope s_is_core) .none kV6 dc6 pm6 an6 cd6 ct6), sl6⟩) (c6 : PySem.W.codeIn K cd6 "is_core" = true) (k6 : PySem.W.keepIn K (.ref f6) = true)
    (a7 : PySem.W.nsIn K mainGlobals "alike" = some (some (.ref f7))) (l7 : K.lookup f7 = some ⟨oc7, od7, .func (PySem.W.fnOf "alike" "alike" (defArgs s_alike) (defBody s_alike) (defScope s_alike) .none kV7 dc7 pm7 an7 cd7 ct7), sl7⟩) (c7 : PySem.W.codeIn K cd7 "alike" = true) (k7 : PySem.W.keepIn K (.ref f7) = true)
    (a8 : PySem.W.nsIn K mainGlobals "first_to_shift" = some (some (.ref f8))) (l8 : K.lookup f8 = some ⟨oc8, od8, .func (PySem.W.fnOf "first_to_shift" "first_to_shift" (defArgs s_first_to_shift) (defBody s_first_to_shift) (defScope s_first_to_shift) .none kV8 dc8 pm8 an8 cd8 ct8), sl8⟩) (c8 : PySem.W.codeIn K cd8 "first_to_shift" = true) (k8 : PySem.W.keepIn K (.ref f8) = true)
    (a9 : PySem.W.nsIn K mainGlobals "almanac_of" = some (some (.ref f9))) (l9 : K.lookup f9 = some ⟨oc9, od9, .func (PySem.W.fnOf "almanac_of" "almanac_of" (defArgs s_almanac_of) (defBody s_almanac_of) (defScope s_almanac_of) .none kV9 dc9 pm9 an9 cd9 ct9), sl9⟩) (c9 : PySem.W.codeIn K cd9 "almanac_of" = true) (k9 : PySem.W.keepIn K (.ref f9) = true)
    (a10 : PySem.W.nsIn K mainGlobals "are_contrary" = some (some (.ref f10))) (l10 : K.lookup f10 = some ⟨oc10, od10, .func (PySem.W.fnOf "are_contrary" "are_contrary" (defArgs s_are_contrary) (defBody s_are_contrary) (defScope s_are_contrary) .none kV10 dc10 pm10 an10 cd10 ct10), sl10⟩) (c10 : PySem.W.codeIn K cd10 "are_contrary" = true) (k10 : PySem.W.keepIn K (.ref f10) = true)
    (a11 : PySem.W.nsIn K mainGlobals "first_clash" = some (some (.ref f11))) (l11 : K.lookup f11 = some ⟨oc11, od11, .func (PySem.W.fnOf "first_clash" "first_clash" (defArgs s_first_clash) (defBody s_first_clash) (defScope s_first_clash) .none kV11 dc11 pm11 an11 cd11 ct11), sl11⟩) (c11 : PySem.W.codeIn K cd11 "first_clash" = true) (k11 : PySem.W.keepIn K (.ref f11) = true)
    (a12 : PySem.W.nsIn K mainGlobals "refuse_clash" = some (some (.ref f12))) (l12 : K.lookup f12 = some ⟨oc12, od12, .func (PySem.W.fnOf "refuse_clash" "refuse_clash" (defArgs s_refuse_clash) (defBody s_refuse_clash) (defScope s_refuse_clash) .none kV12 dc12 pm12 an12 cd12 ct12), sl12⟩) (c12 : PySem.W.codeIn K cd12 "refuse_clash" = true) (k12 : PySem.W.keepIn K (.ref f12) = true)
    (a13 : PySem.W.nsIn K mainGlobals "least_ahead" = some (some (.ref f13))) (l13 : K.lookup f13 = some ⟨oc13, od13, .func (PySem.W.fnOf "least_ahead" "least_ahead" (defArgs s_least_ahead) (defBody s_least_ahead) (defScope s_least_ahead) .none kV13 dc13 pm13 an13 cd13 ct13), sl13⟩) (c13 : PySem.W.codeIn K cd13 "least_ahead" = true) (k13 : PySem.W.keepIn K (.ref f13) = true)
    (a14 : PySem.W.nsIn K mainGlobals "most_ahead" = some (some (.ref f14))) (l14 : K.lookup f14 = some ⟨oc14, od14, .func (PySem.W.fnOf "most_ahead" "most_ahead" (defArgs s_most_ahead) (defBody s_most_ahead) (defScope s_most_ahead) .none kV14 dc14 pm14 an14 cd14 ct14), sl14⟩) (c14 : PySem.W.codeIn K cd14 "most_ahead" = true) (k14 : PySem.W.keepIn K (.ref f14) = true)
    (a15 : PySem.W.nsIn K mainGlobals "bounds" = some (some (.ref f15))) (l15 : K.lookup f15 = some ⟨oc15, od15, .func (PySem.W.fnOf "bounds" "bounds" (defArgs s_bounds) (defBody s_bounds) (defScope s_bounds) .none kV15 dc15 pm15 an15 cd15 ct15), sl15⟩) (c15 : PySem.W.codeIn K cd15 "bounds" = true) (k15 : PySem.W.keepIn K (.ref f15) = true)
    (a16 : PySem.W.nsIn K mainGlobals "ways_on" = some (some (.ref f16))) (l16 : K.lookup f16 = some ⟨oc16, od16, .func (PySem.W.fnOf "ways_on" "ways_on" (defArgs s_ways_on) (defBody s_ways_on) (defScope s_ways_on) .none kV16 dc16 pm16 an16 cd16 ct16), sl16⟩) (c16 : PySem.W.codeIn K cd16 "ways_on" = true) (k16 : PySem.W.keepIn K (.ref f16) = true)
    (a17 : PySem.W.nsIn K mainGlobals "ways_ahead" = some (some (.ref f17))) (l17 : K.lookup f17 = some ⟨oc17, od17, .func (PySem.W.fnOf "ways_ahead" "ways_ahead" (defArgs s_ways_ahead) (defBody s_ways_ahead) (defScope s_ways_ahead) .none kV17 dc17 pm17 an17 cd17 ct17), sl17⟩) (c17 : PySem.W.codeIn K cd17 "ways_ahead" = true) (k17 : PySem.W.keepIn K (.ref f17) = true)
    (a18 : PySem.W.nsIn K mainGlobals "order_at" = some (some (.ref f18))) (l18 : K.lookup f18 = some ⟨oc18, od18, .func (PySem.W.fnOf "order_at" "order_at" (defArgs s_order_at) (defBody s_order_at) (defScope s_order_at) .none kV18 dc18 pm18 an18 cd18 ct18), sl18⟩) (c18 : PySem.W.codeIn K cd18 "order_at" = true) (k18 : PySem.W.keepIn K (.ref f18) = true)
    (a19 : PySem.W.nsIn K mainGlobals "first_gentle" = some (some (.ref f19))) (l19 : K.lookup f19 = some ⟨oc19, od19, .func (PySem.W.fnOf "first_gentle" "first_gentle" (defArgs s_first_gentle) (defBody s_first_gentle) (defScope s_first_gentle) .none kV19 dc19 pm19 an19 cd19 ct19), sl19⟩) (c19 : PySem.W.codeIn K cd19 "first_gentle" = true) (k19 : PySem.W.keepIn K (.ref f19) = true)
    (a20 : PySem.W.nsIn K mainGlobals "meetings" = some (some (.ref f20))) (l20 : K.lookup f20 = some ⟨oc20, od20, .func (PySem.W.fnOf "meetings" "meetings" (defArgs s_meetings) (defBody s_meetings) (defScope s_meetings) .none kV20 dc20 pm20 an20 cd20 ct20), sl20⟩) (c20 : PySem.W.codeIn K cd20 "meetings" = true) (k20 : PySem.W.keepIn K (.ref f20) = true)
    (a21 : PySem.W.nsIn K mainGlobals "both_words" = some (some (.ref f21))) (l21 : K.lookup f21 = some ⟨oc21, od21, .func (PySem.W.fnOf "both_words" "both_words" (defArgs s_both_words) (defBody s_both_words) (defScope s_both_words) .none kV21 dc21 pm21 an21 cd21 ct21), sl21⟩) (c21 : PySem.W.codeIn K cd21 "both_words" = true) (k21 : PySem.W.keepIn K (.ref f21) = true)
    (a22 : PySem.W.nsIn K mainGlobals "words_for" = some (some (.ref f22))) (l22 : K.lookup f22 = some ⟨oc22, od22, .func (PySem.W.fnOf "words_for" "words_for" (defArgs s_words_for) (defBody s_words_for) (defScope s_words_for) .none kV22 dc22 pm22 an22 cd22 ct22), sl22⟩) (c22 : PySem.W.codeIn K cd22 "words_for" = true) (k22 : PySem.W.keepIn K (.ref f22) = true)
    (a23 : PySem.W.nsIn K mainGlobals "order_for" = some (some (.ref f23))) (l23 : K.lookup f23 = some ⟨oc23, od23, .func (PySem.W.fnOf "order_for" "order_for" (defArgs s_order_for) (defBody s_order_for) (defScope s_order_for) .none kV23 dc23 pm23 an23 cd23 ct23), sl23⟩) (c23 : PySem.W.codeIn K cd23 "order_for" = true) (k23 : PySem.W.keepIn K (.ref f23) = true)
    (a24 : PySem.W.nsIn K mainGlobals "_law_cell_at" = some (some (.ref f24))) (l24 : K.lookup f24 = some ⟨oc24, od24, .func (PySem.W.fnOf "_law_cell_at" "_law_cell_at" (defArgs s__law_cell_at) (defBody s__law_cell_at) (defScope s__law_cell_at) .none kV24 dc24 pm24 an24 cd24 ct24), sl24⟩) (c24 : PySem.W.codeIn K cd24 "_law_cell_at" = true) (k24 : PySem.W.keepIn K (.ref f24) = true)
    (a25 : PySem.W.nsIn K mainGlobals "_law_box" = some (some (.ref f25))) (l25 : K.lookup f25 = some ⟨oc25, od25, .func (PySem.W.fnOf "_law_box" "_law_box" (defArgs s__law_box) (defBody s__law_box) (defScope s__law_box) .none kV25 dc25 pm25 an25 cd25 ct25), sl25⟩) (c25 : PySem.W.codeIn K cd25 "_law_box" = true) (k25 : PySem.W.keepIn K (.ref f25) = true)
    (a26 : PySem.W.nsIn K mainGlobals "_law_take" = some (some (.ref f26))) (l26 : K.lookup f26 = some ⟨oc26, od26, .func (PySem.W.fnOf "_law_take" "_law_take" (defArgs s__law_take) (defBody s__law_take) (defScope s__law_take) .none kV26 dc26 pm26 an26 cd26 ct26), sl26⟩) (c26 : PySem.W.codeIn K cd26 "_law_take" = true) (k26 : PySem.W.keepIn K (.ref f26) = true)
    (a27 : PySem.W.nsIn K mainGlobals "_law_of" = some (some (.ref f27))) (l27 : K.lookup f27 = some ⟨oc27, od27, .func (PySem.W.fnOf "_law_of" "_law_of" (defArgs s__law_of) (defBody s__law_of) (defScope s__law_of) .none kV27 dc27 pm27 an27 cd27 ct27), sl27⟩) (c27 : PySem.W.codeIn K cd27 "_law_of" = true) (k27 : PySem.W.keepIn K (.ref f27) = true)
    (a28 : PySem.W.nsIn K mainGlobals "_law_same" = some (some (.ref f28))) (l28 : K.lookup f28 = some ⟨oc28, od28, .func (PySem.W.fnOf "_law_same" "_law_same" (defArgs s__law_same) (defBody s__law_same) (defScope s__law_same) .none kV28 dc28 pm28 an28 cd28 ct28), sl28⟩) (c28 : PySem.W.codeIn K cd28 "_law_same" = true) (k28 : PySem.W.keepIn K (.ref f28) = true)
    (a29 : PySem.W.nsIn K mainGlobals "_law_slope" = some (some (.ref f29))) (l29 : K.lookup f29 = some ⟨oc29, od29, .func (PySem.W.fnOf "_law_slope" "_law_slope" (defArgs s__law_slope) (defBody s__law_slope) (defScope s__law_slope) .none kV29 dc29 pm29 an29 cd29 ct29), sl29⟩) (c29 : PySem.W.codeIn K cd29 "_law_slope" = true) (k29 : PySem.W.keepIn K (.ref f29) = true)
    (a30 : PySem.W.nsIn K mainGlobals "_law_core" = some (some (.ref f30))) (l30 : K.lookup f30 = some ⟨oc30, od30, .func (PySem.W.fnOf "_law_core" "_law_core" (defArgs s__law_core) (defBody s__law_core) (defScope s__law_core) .none kV30 dc30 pm30 an30 cd30 ct30), sl30⟩) (c30 : PySem.W.codeIn K cd30 "_law_core" = true) (k30 : PySem.W.keepIn K (.ref f30) = true)
    (a31 : PySem.W.nsIn K mainGlobals "_law_lists" = some (some (.ref f31))) (l31 : K.lookup f31 = some ⟨oc31, od31, .func (PySem.W.fnOf "_law_lists" "_law_lists" (defArgs s__law_lists) (defBody s__law_lists) (defScope s__law_lists) .none kV31 dc31 pm31 an31 cd31 ct31), sl31⟩) (c31 : PySem.W.codeIn K cd31 "_law_lists" = true) (k31 : PySem.W.keepIn K (.ref f31) = true)
    (a32 : PySem.W.nsIn K mainGlobals "_law_books" = some (some (.ref f32))) (l32 : K.lookup f32 = some ⟨oc32, od32, .func (PySem.W.fnOf "_law_books" "_law_books" (defArgs s__law_books) (defBody s__law_books) (defScope s__law_books) .none kV32 dc32 pm32 an32 cd32 ct32), sl32⟩) (c32 : PySem.W.codeIn K cd32 "_law_books" = true) (k32 : PySem.W.keepIn K (.ref f32) = true)
    (a33 : PySem.W.nsIn K mainGlobals "_law_orders" = some (some (.ref f33))) (l33 : K.lookup f33 = some ⟨oc33, od33, .func (PySem.W.fnOf "_law_orders" "_law_orders" (defArgs s__law_orders) (defBody s__law_orders) (defScope s__law_orders) .none kV33 dc33 pm33 an33 cd33 ct33), sl33⟩) (c33 : PySem.W.codeIn K cd33 "_law_orders" = true) (k33 : PySem.W.keepIn K (.ref f33) = true)
    (a34 : PySem.W.nsIn K mainGlobals "_law_almanac" = some (some (.ref f34))) (l34 : K.lookup f34 = some ⟨oc34, od34, .func (PySem.W.fnOf "_law_almanac" "_law_almanac" (defArgs s__law_almanac) (defBody s__law_almanac) (defScope s__law_almanac) .none kV34 dc34 pm34 an34 cd34 ct34), sl34⟩) (c34 : PySem.W.codeIn K cd34 "_law_almanac" = true) (k34 : PySem.W.keepIn K (.ref f34) = true)
    (a35 : PySem.W.nsIn K mainGlobals "_law_near" = some (some (.ref f35))) (l35 : K.lookup f35 = some ⟨oc35, od35, .func (PySem.W.fnOf "_law_near" "_law_near" (defArgs s__law_near) (defBody s__law_near) (defScope s__law_near) .none kV35 dc35 pm35 an35 cd35 ct35), sl35⟩) (c35 : PySem.W.codeIn K cd35 "_law_near" = true) (k35 : PySem.W.keepIn K (.ref f35) = true)
    (a36 : PySem.W.nsIn K mainGlobals "_law_told" = some (some (.ref f36))) (l36 : K.lookup f36 = some ⟨oc36, od36, .func (PySem.W.fnOf "_law_told" "_law_told" (defArgs s__law_told) (defBody s__law_told) (defScope s__law_told) .none kV36 dc36 pm36 an36 cd36 ct36), sl36⟩) (c36 : PySem.W.codeIn K cd36 "_law_told" = true) (k36 : PySem.W.keepIn K (.ref f36) = true)
    (a37 : PySem.W.nsIn K mainGlobals "_law_right" = some (some (.ref f37))) (l37 : K.lookup f37 = some ⟨oc37, od37, .func (PySem.W.fnOf "_law_right" "_law_right" (defArgs s__law_right) (defBody s__law_right) (defScope s__law_right) .none kV37 dc37 pm37 an37 cd37 ct37), sl37⟩) (c37 : PySem.W.codeIn K cd37 "_law_right" = true) (k37 : PySem.W.keepIn K (.ref f37) = true)
    (a38 : PySem.W.nsIn K mainGlobals "law" = some (some (.ref f38))) (l38 : K.lookup f38 = some ⟨oc38, od38, .func (PySem.W.fnOf "law" "law" (defArgs s_law) (defBody s_law) (defScope s_law) .none kV38 dc38 pm38 an38 cd38 ct38), sl38⟩) (c38 : PySem.W.codeIn K cd38 "law" = true) (k38 : PySem.W.keepIn K (.ref f38) = true)
    (xh : PySem.W.specialIn K (.builtin "object.__class__") "__get__" = some (some (.builtin "getset_descriptor.__get__"))) (xt : PySem.W.takesIn K (.builtin "object.__class__") = some true)
    (xa0 : PySem.W.nsIn K mainGlobals "Clash" = some (some (.ref xC0))) (xl0 : K.lookup xC0 = some (excClassObj "Clash" xq0 xC0 xN0 xbs0 [.type "ValueError", .type "Exception", .type "BaseException", .type "object"] true xsn0 xsub0 xab0 xcol0 xdd0 xm00 xm01 xm02 xm03 xm05 "ValueError.__new__"))
    (xs0 : PySem.W.findIn K (.ref xC0) "__setattr__" = some (some (.builtin "object.__setattr__"))) (xg0 : PySem.W.findIn K (.ref xC0) "__getattribute__" = some (some (.builtin "BaseException.__getattribute__"))) (xo0 : PySem.W.findIn K (.ref xC0) "__getattr__" = some none) (xc0 : PySem.W.findIn K (.ref xC0) "__class__" = some (some (.builtin "object.__class__")))
    (xf0 : PySem.W.findIn K (.ref xC0) "places" = some none) (xk0 : PySem.W.keepIn K (.ref xC0) = true) (xe0 : PySem.W.subIn K (.ref xC0) (.type "BaseException") = some true) (xy0 : PySem.W.typeIn K (.ref xC0) = some (.type "type"))
    (xi0 : PySem.W.findIn K (.ref xC0) "__init__" = some (some (.ref xfi0))) (xw0 : PySem.W.typeIn K (.ref xfi0) = some (.type "function")) (xj0 : K.lookup xfi0 = some ⟨xoc0, xod0, .func (PySem.W.fnOf "__init__" "Clash.__init__" (defArgs si_Clash) (defBody si_Clash) (defScope si_Clash) .none xkV0 xdc0 xpm0 xan0 xcd0 xct0), xsl0⟩) (xr0 : PySem.W.codeIn K xcd0 "Clash.__init__" = true) (xz0 : PySem.W.keepIn K (.ref xfi0) = true) (xv0 : PySem.W.findCls K (.type "ValueError") (.type "type") "__init__" = some (.val (.builtin "ValueError.__init__")))
    (xa1 : PySem.W.nsIn K mainGlobals "NoCore" = some (some (.ref xC1))) (xl1 : K.lookup xC1 = some (excClassObj "NoCore" xq1 xC1 xN1 xbs1 [.type "LookupError", .type "Exception", .type "BaseException", .type "object"] true xsn1 xsub1 xab1 xcol1 xdd1 xm10 xm11 xm12 xm13 xm15 "LookupError.__new__"))
    (xs1 : PySem.W.findIn K (.ref xC1) "__setattr__" = some (some (.builtin "object.__setattr__"))) (xg1 : PySem.W.findIn K (.ref xC1) "__getattribute__" = some (some (.builtin "BaseException.__getattribute__"))) (xo1 : PySem.W.findIn K (.ref xC1) "__getattr__" = some none) (xc1 : PySem.W.findIn K (.ref xC1) "__class__" = some (some (.builtin "object.__class__")))
    (xf1 : PySem.W.findIn K (.ref xC1) "core" = some none) (xk1 : PySem.W.keepIn K (.ref xC1) = true) (xe1 : PySem.W.subIn K (.ref xC1) (.type "BaseException") = some true) (xy1 : PySem.W.typeIn K (.ref xC1) = some (.type "type"))
    (xi1 : PySem.W.findIn K (.ref xC1) "__init__" = some (some (.ref xfi1))) (xw1 : PySem.W.typeIn K (.ref xfi1) = some (.type "function")) (xj1 : K.lookup xfi1 = some ⟨xoc1, xod1, .func (PySem.W.fnOf "__init__" "NoCore.__init__" (defArgs si_NoCore) (defBody si_NoCore) (defScope si_NoCore) .none xkV1 xdc1 xpm1 xan1 xcd1 xct1), xsl1⟩) (xr1 : PySem.W.codeIn K xcd1 "NoCore.__init__" = true) (xz1 : PySem.W.keepIn K (.ref xfi1) = true) (xv1 : PySem.W.findCls K (.type "LookupError") (.type "type") "__init__" = some (.val (.builtin "LookupError.__init__")))
    (xa2 : PySem.W.nsIn K mainGlobals "NoOrder" = some (some (.ref xC2))) (xl2 : K.lookup xC2 = some (excClassObj "NoOrder" xq2 xC2 xN2 xbs2 [.type "LookupError", .type "Exception", .type "BaseException", .type "object"] true xsn2 xsub2 xab2 xcol2 xdd2 xm20 xm21 xm22 xm23 xm25 "LookupError.__new__"))
    (xs2 : PySem.W.findIn K (.ref xC2) "__setattr__" = some (some (.builtin "object.__setattr__"))) (xg2 : PySem.W.findIn K (.ref xC2) "__getattribute__" = some (some (.builtin "BaseException.__getattribute__"))) (xo2 : PySem.W.findIn K (.ref xC2) "__getattr__" = some none) (xc2 : PySem.W.findIn K (.ref xC2) "__class__" = some (some (.builtin "object.__class__")))
    (xf2 : PySem.W.findIn K (.ref xC2) "number" = some none) (xk2 : PySem.W.keepIn K (.ref xC2) = true) (xe2 : PySem.W.subIn K (.ref xC2) (.type "BaseException") = some true) (xy2 : PySem.W.typeIn K (.ref xC2) = some (.type "type"))
    (xi2 : PySem.W.findIn K (.ref xC2) "__init__" = some (some (.ref xfi2))) (xw2 : PySem.W.typeIn K (.ref xfi2) = some (.type "function")) (xj2 : K.lookup xfi2 = some ⟨xoc2, xod2, .func (PySem.W.fnOf "__init__" "NoOrder.__init__" (defArgs si_NoOrder) (defBody si_NoOrder) (defScope si_NoOrder) .none xkV2 xdc2 xpm2 xan2 xcd2 xct2), xsl2⟩) (xr2 : PySem.W.codeIn K xcd2 "NoOrder.__init__" = true) (xz2 : PySem.W.keepIn K (.ref xfi2) = true) (xv2 : PySem.W.findCls K (.type "LookupError") (.type "type") "__init__" = some (.val (.builtin "LookupError.__init__")))
    (xa3 : PySem.W.nsIn K mainGlobals "TooMany" = some (some (.ref xC3))) (xl3 : K.lookup xC3 = some (excClassObj "TooMany" xq3 xC3 xN3 xbs3 [.type "OverflowError", .type "ArithmeticError", .type "Exception", .type "BaseException", .type "object"] true xsn3 xsub3 xab3 xcol3 xdd3 xm30 xm31 xm32 xm33 xm35 "OverflowError.__new__"))
    (xs3 : PySem.W.findIn K (.ref xC3) "__setattr__" = some (some (.builtin "object.__setattr__"))) (xg3 : PySem.W.findIn K (.ref xC3) "__getattribute__" = some (some (.builtin "BaseException.__getattribute__"))) (xo3 : PySem.W.findIn K (.ref xC3) "__getattr__" = some none) (xc3 : PySem.W.findIn K (.ref xC3) "__class__" = some (some (.builtin "object.__class__")))
    (xf3 : PySem.W.findIn K (.ref xC3) "many" = some none) (xk3 : PySem.W.keepIn K (.ref xC3) = true) (xe3 : PySem.W.subIn K (.ref xC3) (.type "BaseException") = some true) (xy3 : PySem.W.typeIn K (.ref xC3) = some (.type "type"))
    (z0 : PySem.W.nsIn K mainGlobals "IndexError" = some none)
    (z1 : PySem.W.nsIn K mainGlobals "KeyError" = some none)
    (z2 : PySem.W.nsIn K mainGlobals "LookupError" = some none)
    (z3 : PySem.W.nsIn K mainGlobals "ValueError" = some none)
    (z4 : PySem.W.nsIn K mainGlobals "abs" = some none)
    (z5 : PySem.W.nsIn K mainGlobals "all" = some none)
    (z6 : PySem.W.nsIn K mainGlobals "bool" = some none)
    (z7 : PySem.W.nsIn K mainGlobals "enumerate" = some none)
    (z8 : PySem.W.nsIn K mainGlobals "int" = some none)
    (z9 : PySem.W.nsIn K mainGlobals "isinstance" = some none)
    (z10 : PySem.W.nsIn K mainGlobals "len" = some none)
    (z11 : PySem.W.nsIn K mainGlobals "list" = some none)
    (z12 : PySem.W.nsIn K mainGlobals "max" = some none)
    (z13 : PySem.W.nsIn K mainGlobals "min" = some none)
    (z14 : PySem.W.nsIn K mainGlobals "range" = some none)
    (z15 : PySem.W.nsIn K mainGlobals "reversed" = some none)
    (z16 : PySem.W.nsIn K mainGlobals "sorted" = some none)
    (z17 : PySem.W.nsIn K mainGlobals "str" = some none)
    (z18 : PySem.W.nsIn K mainGlobals "tuple" = some none)
    (z19 : PySem.W.nsIn K mainGlobals "zip" = some none) :
    ∃ fd : FuncData, (∀ (s : Shared) (v : Value), BindsTo s fd ⟨[v], []⟩ [("_law_script", v)]) ∧ ∀ base : Heap, K.In base → base.Ns mainGlobals mg → FnOk l.prog w K mg base CX0 18 fa fd ["_law_script"] (spA K 1 g_law) := by
  have e := hfa.symm.trans (PySem.W.mg_of X G a38)
  cases e
  exact ⟨PySem.W.fnOf "law" "law" (defArgs s_law) (defBody s_law) (defScope s_law) .none kV38 dc38 pm38 an38 cd38 ct38, fun s v => .of_eq rfl, fun base _ _ => ok_law { f_is_number := _, fd_is_number := _, F_is_number := fun_mk (st := s_is_number) l0 c0 k0, m_is_number := PySem.W.mg_of X G a0, b_is_number := (fun_mk (st := s_is_number) l0 c0 k0).binds (ps := ["thing"]) (fun _ _ _ _ _ _ us hl => match us, hl with | [_], _ => rfl), f_own_copy := _, fd_own_copy := _, F_own_copy := fun_mk (st := s_own_copy) l1 c1 k1, m_own_copy := PySem.W.mg_of X G a1, b_own_copy := (fun_mk (st := s_own_copy) l1 c1 k1).binds (ps := ["thing"]) (fun _ _ _ _ _ _ us hl => match us, hl with | [_], _ => rfl), f_is_wind := _, fd_is_wind := _, F_is_wind := fun_mk (st := s_is_wind) l2 c2 k2, m_is_wind := PySem.W.mg_of X G a2, b_is_wind := (fun_mk (st := s_is_wind) l2 c2 k2).binds (ps := ["thing"]) (fun _ _ _ _ _ _ us hl => match us, hl with | [_], _ => rfl), f_is_almanac := _, fd_is_almanac := _, F_is_almanac := fun_mk (st := s_is_almanac) l3 c3 k3, m_is_almanac := PySem.W.mg_of X G a3, b_is_almanac := (fun_mk (st := s_is_almanac) l3 c3 k3).binds (ps := ["thing"]) (fun _ _ _ _ _ _ us hl => match us, hl with | [_], _ => rfl), f_gentler_ones := _, fd_gentler_ones := _, F_gentler_ones := fun_mk (st := s_gentler_ones) l4 c4 k4, m_gentler_ones := PySem.W.mg_of X G a4, b_gentler_ones := (fun_mk (st := s_gentler_ones) l4 c4 k4).binds (ps := ["almanac"]) (fun _ _ _ _ _ _ us hl => match us, hl with | [_], _ => rfl), f_core := _, fd_core := _, F_core := fun_mk (st := s_core) l5 c5 k5, m_core := PySem.W.mg_of X G a5, b_core := (fun_mk (st := s_core) l5 c5 k5).binds (ps := ["almanac"]) (fun _ _ _ _ _ _ us hl => match us, hl with | [_], _ => rfl), f_is_core := _, fd_is_core := _, F_is_core := fun_mk (st := s_is_core) l6 c6 k6, m_is_core := PySem.W.mg_of X G a6, b_is_core := (fun_mk (st := s_is_core) l6 c6 k6).binds (ps := ["thing"]) (fun _ _ _ _ _ _ us hl => match us, hl with | [_], _ => rfl), f_alike := _, fd_alike := _, F_alike := fun_mk (st := s_alike) l7 c7 k7, m_alike := PySem.W.mg_of X G a7, b_alike := (fun_mk (st := s_alike) l7 c7 k7).binds (ps := ["one", "other"]) (fun _ _ _ _ _ _ us hl => match us, hl with | [_, _], _ => rfl), f_first_to_shift := _, fd_first_to_shift := _, F_first_to_shift := fun_mk (st := s_first_to_shift) l8 c8 k8, m_first_to_shift := PySem.W.mg_of X G a8, b_first_to_shift := (fun_mk (st := s_first_to_shift) l8 c8 k8).binds (ps := ["almanac", "slope"]) (fun _ _ _ _ _ _ us hl => match us, hl with | [_, _], _ => rfl), f_almanac_of := _, fd_almanac_of := _, F_almanac_of := fun_mk (st := s_almanac_of) l9 c9 k9, m_almanac_of := PySem.W.mg_of X G a9, b_almanac_of := (fun_mk (st := s_almanac_of) l9 c9 k9).binds (ps := ["cuts", "fills", "order"]) (fun _ _ _ _ _ _ us hl => match us, hl with | [_, _, _], _ => rfl), f_are_contrary := _, fd_are_contrary := _, F_are_contrary := fun_mk (st := s_are_contrary) l10 c10 k10, m_are_contrary := PySem.W.mg_of X G a10, b_are_contrary := (fun_mk (st := s_are_contrary) l10 c10 k10).binds (ps := ["one", "other"]) (fun _ _ _ _ _ _ us hl => match us, hl with | [_, _], _ => rfl), f_first_clash := _, fd_first_clash := _, F_first_clash := fun_mk (st := s_first_clash) l11 c11 k11, m_first_clash := PySem.W.mg_of X G a11, b_first_clash := (fun_mk (st := s_first_clash) l11 c11 k11).binds (ps := ["words"]) (fun _ _ _ _ _ _ us hl => match us, hl with | [_], _ => rfl), f_refuse_clash := _, fd_refuse_clash := _, F_refuse_clash := fun_mk (st := s_refuse_clash) l12 c12 k12, m_refuse_clash := PySem.W.mg_of X G a12, b_refuse_clash := (fun_mk (st := s_refuse_clash) l12 c12 k12).binds (ps := ["words"]) (fun _ _ _ _ _ _ us hl => match us, hl with | [_], _ => rfl), f_least_ahead := _, fd_least_ahead := _, F_least_ahead := fun_mk (st := s_least_ahead) l13 c13 k13, m_least_ahead := PySem.W.mg_of X G a13, b_least_ahead := (fun_mk (st := s_least_ahead) l13 c13 k13).binds (ps := ["words", "fill"]) (fun _ _ _ _ _ _ us hl => match us, hl with | [_, _], _ => rfl), f_most_ahead := _, fd_most_ahead := _, F_most_ahead := fun_mk (st := s_most_ahead) l14 c14 k14, m_most_ahead := PySem.W.mg_of X G a14, b_most_ahead := (fun_mk (st := s_most_ahead) l14 c14 k14).binds (ps := ["cuts", "words", "fill"]) (fun _ _ _ _ _ _ us hl => match us, hl with | [_, _, _], _ => rfl), f_bounds := _, fd_bounds := _, F_bounds := fun_mk (st := s_bounds) l15 c15 k15, m_bounds := PySem.W.mg_of X G a15, b_bounds := (fun_mk (st := s_bounds) l15 c15 k15).binds (ps := ["cuts", "fills", "words"]) (fun _ _ _ _ _ _ us hl => match us, hl with | [_, _, _], _ => rfl), f_ways_on := _, fd_ways_on := _, F_ways_on := fun_mk (st := s_ways_on) l16 c16 k16, m_ways_on := PySem.W.mg_of X G a16, b_ways_on := (fun_mk (st := s_ways_on) l16 c16 k16).binds (ps := ["cuts", "fills", "words"]) (fun _ _ _ _ _ _ us hl => match us, hl with | [_, _, _], _ => rfl), f_ways_ahead := _, fd_ways_ahead := _, F_ways_ahead := fun_mk (st := s_ways_ahead) l17 c17 k17, m_ways_ahead := PySem.W.mg_of X G a17, b_ways_ahead := (fun_mk (st := s_ways_ahead) l17 c17 k17).binds (ps := ["later", "least", "most"]) (fun _ _ _ _ _ _ us hl => match us, hl with | [_, _, _], _ => rfl), f_order_at := _, fd_order_at := _, F_order_at := fun_mk (st := s_order_at) l18 c18 k18, m_order_at := PySem.W.mg_of X G a18, b_order_at := (fun_mk (st := s_order_at) l18 c18 k18).binds (ps := ["cuts", "fills", "words", "number"]) (fun _ _ _ _ _ _ us hl => match us, hl with | [_, _, _, _], _ => rfl), f_first_gentle := _, fd_first_gentle := _, F_first_gentle := fun_mk (st := s_first_gentle) l19 c19 k19, m_first_gentle := PySem.W.mg_of X G a19, b_first_gentle := (fun_mk (st := s_first_gentle) l19 c19 k19).binds (ps := ["slopes", "slope"]) (fun _ _ _ _ _ _ us hl => match us, hl with | [_, _], _ => rfl), f_meetings := _, fd_meetings := _, F_meetings := fun_mk (st := s_meetings) l20 c20 k20, m_meetings := PySem.W.mg_of X G a20, b_meetings := (fun_mk (st := s_meetings) l20 c20 k20).binds (ps := ["cuts", "fills"]) (fun _ _ _ _ _ _ us hl => match us, hl with | [_, _], _ => rfl), f_both_words := _, fd_both_words := _, F_both_words := fun_mk (st := s_both_words) l21 c21 k21, m_both_words := PySem.W.mg_of X G a21, b_both_words := (fun_mk (st := s_both_words) l21 c21 k21).binds (ps := ["pair"]) (fun _ _ _ _ _ _ us hl => match us, hl with | [_], _ => rfl), f_words_for := _, fd_words_for := _, F_words_for := fun_mk (st := s_words_for) l22 c22 k22, m_words_for := PySem.W.mg_of X G a22, b_words_for := (fun_mk (st := s_words_for) l22 c22 k22).binds (ps := ["cuts", "fills", "winds"]) (fun _ _ _ _ _ _ us hl => match us, hl with | [_, _, _], _ => rfl), f_order_for := _, fd_order_for := _, F_order_for := fun_mk (st := s_order_for) l23 c23 k23, m_order_for := PySem.W.mg_of X G a23, b_order_for := (fun_mk (st := s_order_for) l23 c23 k23).binds (ps := ["cuts", "fills", "core"]) (fun _ _ _ _ _ _ us hl => match us, hl with | [_, _, _], _ => rfl), f__law_cell_at := _, fd__law_cell_at := _, F__law_cell_at := fun_mk (st := s__law_cell_at) l24 c24 k24, m__law_cell_at := PySem.W.mg_of X G a24, b__law_cell_at := (fun_mk (st := s__law_cell_at) l24 c24 k24).binds (ps := ["_law_script", "_law_k"]) (fun _ _ _ _ _ _ us hl => match us, hl with | [_, _], _ => rfl), f__law_box := _, fd__law_box := _, F__law_box := fun_mk (st := s__law_box) l25 c25 k25, m__law_box := PySem.W.mg_of X G a25, b__law_box := (fun_mk (st := s__law_box) l25 c25 k25).binds (ps := ["_law_script", "_law_k"]) (fun _ _ _ _ _ _ us hl => match us, hl with | [_, _], _ => rfl), f__law_take := _, fd__law_take := _, F__law_take := fun_mk (st := s__law_take) l26 c26 k26, m__law_take := PySem.W.mg_of X G a26, b__law_take := (fun_mk (st := s__law_take) l26 c26 k26).binds (ps := ["_law_box_here", "_law_size"]) (fun _ _ _ _ _ _ us hl => match us, hl with | [_, _], _ => rfl), f__law_of := _, fd__law_of := _, F__law_of := fun_mk (st := s__law_of) l27 c27 k27, m__law_of := PySem.W.mg_of X G a27, b__law_of := (fun_mk (st := s__law_of) l27 c27 k27).binds (ps := ["_law_box_here", "_law_some"]) (fun _ _ _ _ _ _ us hl => match us, hl with | [_, _], _ => rfl), f__law_same := _, fd__law_same := _, F__law_same := fun_mk (st := s__law_same) l28 c28 k28, m__law_same := PySem.W.mg_of X G a28, b__law_same := (fun_mk (st := s__law_same) l28 c28 k28).binds (ps := ["_law_told_here", "_law_due"]) (fun _ _ _ _ _ _ us hl => match us, hl with | [_, _], _ => rfl), f__law_slope := _, fd__law_slope := _, F__law_slope := fun_mk (st := s__law_slope) l29 c29 k29, m__law_slope := PySem.W.mg_of X G a29, b__law_slope := (fun_mk (st := s__law_slope) l29 c29 k29).binds (ps := ["_law_box_here"]) (fun _ _ _ _ _ _ us hl => match us, hl with | [_], _ => rfl), f__law_core := _, fd__law_core := _, F__law_core := fun_mk (st := s__law_core) l30 c30 k30, m__law_core := PySem.W.mg_of X G a30, b__law_core := (fun_mk (st := s__law_core) l30 c30 k30).binds (ps := ["_law_winds"]) (fun _ _ _ _ _ _ us hl => match us, hl with | [_], _ => rfl), f__law_lists := _, fd__law_lists := _, F__law_lists := fun_mk (st := s__law_lists) l31 c31 k31, m__law_lists := PySem.W.mg_of X G a31, b__law_lists := (fun_mk (st := s__law_lists) l31 c31 k31).binds (ps := ["_law_thing"]) (fun _ _ _ _ _ _ us hl => match us, hl with | [_], _ => rfl), f__law_books := _, fd__law_books := _, F__law_books := fun_mk (st := s__law_books) l32 c32 k32, m__law_books := PySem.W.mg_of X G a32, b__law_books := (fun_mk (st := s__law_books) l32 c32 k32).binds (ps := ["_law_box_here", "_law_size"]) (fun _ _ _ _ _ _ us hl => match us, hl with | [_, _], _ => rfl), f__law_orders := _, fd__law_orders := _, F__law_orders := fun_mk (st := s__law_orders) l33 c33 k33, m__law_orders := PySem.W.mg_of X G a33, b__law_orders := (fun_mk (st := s__law_orders) l33 c33 k33).binds (ps := ["_law_cuts", "_law_fills"]) (fun _ _ _ _ _ _ us hl => match us, hl with | [_, _], _ => rfl), f__law_almanac := _, fd__law_almanac := _, F__law_almanac := fun_mk (st := s__law_almanac) l34 c34 k34, m__law_almanac := PySem.W.mg_of X G a34, b__law_almanac := (fun_mk (st := s__law_almanac) l34 c34 k34).binds (ps := ["_law_cuts", "_law_fills", "_law_order"]) (fun _ _ _ _ _ _ us hl => match us, hl with | [_, _, _], _ => rfl), f__law_near := _, fd__law_near := _, F__law_near := fun_mk (st := s__law_near) l35 c35 k35, m__law_near := PySem.W.mg_of X G a35, b__law_near := (fun_mk (st := s__law_near) l35 c35 k35).binds (ps := ["_law_box_here", "_law_winds"]) (fun _ _ _ _ _ _ us hl => match us, hl with | [_, _], _ => rfl), f__law_told := _, fd__law_told := _, F__law_told := fun_mk (st := s__law_told) l36 c36 k36, m__law_told := PySem.W.mg_of X G a36, b__law_told := (fun_mk (st := s__law_told) l36 c36 k36).binds (ps := ["_law_cuts", "_law_fills", "_law_winds"]) (fun _ _ _ _ _ _ us hl => match us, hl with | [_, _, _], _ => rfl), f__law_right := _, fd__law_right := _, F__law_right := fun_mk (st := s__law_right) l37 c37 k37, m__law_right := PySem.W.mg_of X G a37, b__law_right := (fun_mk (st := s__law_right) l37 c37 k37).binds (ps := ["_law_box_here"]) (fun _ _ _ _ _ _ us hl => match us, hl with | [_], _ => rfl), f_law := _, fd_law := _, F_law := fun_mk (st := s_law) l38 c38 k38, m_law := PySem.W.mg_of X G a38, b_law := (fun_mk (st := s_law) l38 c38 k38).binds (ps := ["_law_script"]) (fun _ _ _ _ _ _ us hl => match us, hl with | [_], _ => rfl), C_Clash := xC0, x_Clash := ⟨⟨xq0, xN0, xbs0, xsn0, xsub0, xab0, xcol0, xdd0, xm00, xm01, xm02, xm03, xm05, by unfold xtl; rw [(xb_value "Clash" (by decide +kernel))]; exact xl0⟩, xs0, xe0, xy0, xk0, ⟨xg0, xo0, xc0, xh, xt⟩, xa0, xf0, PySem.W.mg_of X G xa0⟩, fI_Clash := _, fdI_Clash := _, iC_Clash := xi0, tI_Clash := xw0, FI_Clash := fun_mk (st := si_Clash) xj0 xr0 xz0, bI_Clash := (fun_mk (st := si_Clash) xj0 xr0 xz0).binds (ps := ["self", "places"]) (fun _ _ _ _ _ _ us hl => match us, hl with | [_, _], _ => rfl), vI_Clash := xv0, C_NoCore := xC1, x_NoCore := ⟨⟨xq1, xN1, xbs1, xsn1, xsub1, xab1, xcol1, xdd1, xm10, xm11, xm12, xm13, xm15, by unfold xtl; rw [(xb_lookup "NoCore" (by decide +kernel))]; exact xl1⟩, xs1, xe1, xy1, xk1, ⟨xg1, xo1, xc1, xh, xt⟩, xa1, xf1, PySem.W.mg_of X G xa1⟩, fI_NoCore := _, fdI_NoCore := _, iC_NoCore := xi1, tI_NoCore := xw1, FI_NoCore := fun_mk (st := si_NoCore) xj1 xr1 xz1, bI_NoCore := (fun_mk (st := si_NoCore) xj1 xr1 xz1).binds (ps := ["self", "core"]) (fun _ _ _ _ _ _ us hl => match us, hl with | [_, _], _ => rfl), vI_NoCore := xv1, C_NoOrder := xC2, x_NoOrder := ⟨⟨xq2, xN2, xbs2, xsn2, xsub2, xab2, xcol2, xdd2, xm20, xm21, xm22, xm23, xm25, by unfold xtl; rw [(xb_lookup "NoOrder" (by decide +kernel))]; exact xl2⟩, xs2, xe2, xy2, xk2, ⟨xg2, xo2, xc2, xh, xt⟩, xa2, xf2, PySem.W.mg_of X G xa2⟩, fI_NoOrder := _, fdI_NoOrder := _, iC_NoOrder := xi2, tI_NoOrder := xw2, FI_NoOrder := fun_mk (st := si_NoOrder) xj2 xr2 xz2, bI_NoOrder := (fun_mk (st := si_NoOrder) xj2 xr2 xz2).binds (ps := ["self", "number"]) (fun _ _ _ _ _ _ us hl => match us, hl with | [_, _], _ => rfl), vI_NoOrder := xv2, C_TooMany := xC3, x_TooMany := ⟨⟨xq3, xN3, xbs3, xsn3, xsub3, xab3, xcol3, xdd3, xm30, xm31, xm32, xm33, xm35, by unfold xtl; rw [xb_over]; exact xl3⟩, xs3, xe3, xy3, xk3, ⟨xg3, xo3, xc3, xh, xt⟩, xa3, xf3, PySem.W.mg_of X G xa3⟩, z_IndexError := PySem.W.mg_none_of X G z0, z_KeyError := PySem.W.mg_none_of X G z1, z_LookupError := PySem.W.mg_none_of X G z2, z_ValueError := PySem.W.mg_none_of X G z3, z_abs := PySem.W.mg_none_of X G z4, z_all := PySem.W.mg_none_of X G z5, z_bool := PySem.W.mg_none_of X G z6, z_enumerate := PySem.W.mg_none_of X G z7, z_int := PySem.W.mg_none_of X G z8, z_isinstance := PySem.W.mg_none_of X G z9, z_len := PySem.W.mg_none_of X G z10, z_list := PySem.W.mg_none_of X G z11, z_max := PySem.W.mg_none_of X G z12, z_min := PySem.W.mg_none_of X G z13, z_range := PySem.W.mg_none_of X G z14, z_reversed := PySem.W.mg_none_of X G z15, z_sorted := PySem.W.mg_none_of X G z16, z_str := PySem.W.mg_none_of X G z17, z_tuple := PySem.W.mg_none_of X G z18, z_zip := PySem.W.mg_none_of X G z19 }⟩
theorem law_sp (K : PySem.W.Frag) (H : Hp) (a : Addr) (ns : List Int) (hl : ns.length ≤ 63) (_ : Only H) (hS : SqL K H a (ns.map V.int)) : spA K 1 g_law [.ref a] H (fun v _ => v = .bl true) fun _ _ _ => False := by
  refine ⟨H, [.scr ns], fun c => c = .val (.bl true), rfl, .refl H, .cons (.scr hS) .nil, ⟨ns, rfl, hl, rfl⟩, fun v c F' H' u S e => ?_⟩
  subst e
  obtain ⟨v', h1, h2⟩ := S.val 0 (.bl true) rfl
  cases h1
  exact h2.blInv
end Pl
open PySem PySem.W PyProof.Rows
set_option maxHeartbeats 0 in
theorem PySem.Challenge.cw_dunebooks_k33_orders_for_cores_holds : PySem.Challenge.rw_dunebooks_k33_orders_for_cores.Holds := by
  w_on; o_law; k_head; (case hw => w_witness2)
  k_fill
  refine L2.walk_ofK (l := PySem.Challenge.rw_dunebooks_k33_orders_for_cores) (n := 63) (k := 18) (x := "_law_script") (CX := L2.CX0) (sp := fun K => Pl.spA K 1 Pl.g_law) rfl (by decide) rfl ⟨rfl, by decide, by decide⟩ (fun w h Y => PySem.W.kIn_of Y) ?F Pl.law_sp (fun _ _ _ _ h => h)
  case F =>
    intro w mg fa h KX G hmg
    refine' Pl.all_mk KX G hmg ?a0 ?l0 ?c0 ?k0 ?a1 ?l1 ?c1 ?k1 ?a2 ?l2 ?c2 ?k2 ?a3 ?l3 ?c3 ?k3 ?a4 ?l4 ?c4 ?k4 ?a5 ?l5 ?c5 ?k5 ?a6 ?l6 ?c6 ?k6 ?a7 ?l7 ?c7 ?k7 ?a8 ?l8 ?c8 ?k8 ?a9 ?l9 ?c9 ?k9 ?a10 ?l10 ?c10 ?k10 ?a11 ?l11 ?c11 ?k11 ?a12 ?l12 ?c12 ?k12 ?a13 ?l13 ?c13 ?k13 ?a14 ?l14 ?c14 ?k14 ?a15 ?l15 ?c15 ?k15 ?a16 ?l16 ?c16 ?k16 ?a17 ?l17 ?c17 ?k17 ?a18 ?l18 ?c18 ?k18 ?a19 ?l19 ?c19 ?k19 ?a20 ?l20 ?c20 ?k20 ?a21 ?l21 ?c21 ?k21 ?a22 ?l22 ?c22 ?k22 ?a23 ?l23 ?c23 ?k23 ?a24 ?l24 ?c24 ?k24 ?a25 ?l25 ?c25 ?k25 ?a26 ?l26 ?c26 ?k26 ?a27 ?l27 ?c27 ?k27 ?a28 ?l28 ?c28 ?k28 ?a29 ?l29 ?c29 ?k29 ?a30 ?l30 ?c30 ?k30 ?a31 ?l31 ?c31 ?k31 ?a32 ?l32 ?c32 ?k32 ?a33 ?l33 ?c33 ?k33 ?a34 ?l34 ?c34 ?k34 ?a35 ?l35 ?c35 ?k35 ?a36 ?l36 ?c36 ?k36 ?a37 ?l37 ?c37 ?k37 ?a38 ?l38 ?c38 ?k38 ?xh ?xt ?xa0 ?xl0 ?xs0 ?xg0 ?xo0 ?xc0 ?xf0 ?xk0 ?xe0 ?xy0 ?xi0 ?xw0 ?xj0 ?xr0 ?xz0 ?xv0 ?xa1 ?xl1 ?xs1 ?xg1 ?xo1 ?xc1 ?xf1 ?xk1 ?xe1 ?xy1 ?xi1 ?xw1 ?xj1 ?xr1 ?xz1 ?xv1 ?xa2 ?xl2 ?xs2 ?xg2 ?xo2 ?xc2 ?xf2 ?xk2 ?xe2 ?xy2 ?xi2 ?xw2 ?xj2 ?xr2 ?xz2 ?xv2 ?xa3 ?xl3 ?xs3 ?xg3 ?xo3 ?xc3 ?xf3 ?xk3 ?xe3 ?xy3 ?z0 ?z1 ?z2 ?z3 ?z4 ?z5 ?z6 ?z7 ?z8 ?z9 ?z10 ?z11 ?z12 ?z13 ?z14 ?z15 ?z16 ?z17 ?z18 ?z19
    (case a0 => k_is); (case l0 => k_is); (case c0 => k_is); (case k0 => k_is); (case a1 => k_is); (case l1 => k_is); (case c1 => k_is); (case k1 => k_is); (case a2 => k_is); (case l2 => k_is); (case c2 => k_is); (case k2 => k_is); (case a3 => k_is); (case l3 => k_is); (case c3 => k_is); (case k3 => k_is); (case a4 => k_is); (case l4 => k_is); (case c4 => k_is); (case k4 => k_is); (case a5 => k_is); (case l5 => k_is); (case c5 => k_is); (case k5 => k_is); (case a6 => k_is); (case l6 => k_is); (case c6 => k_is); (case k6 => k_is); (case a7 => k_is); (case l7 => k_is); (case c7 => k_is); (case k7 => k_is); (case a8 => k_is); (case l8 => k_is); (case c8 => k_is); (case k8 => k_is); (case a9 => k_is); (case l9 => k_is); (case c9 => k_is); (case k9 => k_is); (case a10 => k_is); (case l10 => k_is); (case c10 => k_is); (case k10 => k_is); (case a11 => k_is); (case l11 => k_is); (case c11 => k_is); (case k11 => k_is); (case a12 => k_is); (case l12 => k_is); (case c12 => k_is); (case k12 => k_is); (case a13 => k_is); (case l13 => k_is); (case c13 => k_is); (case k13 => k_is); (case a14 => k_is); (case l14 => k_is); (case c14 => k_is); (case k14 => k_is); (case a15 => k_is); (case l15 => k_is); (case c15 => k_is); (case k15 => k_is); (case a16 => k_is); (case l16 => k_is); (case c16 => k_is); (case k16 => k_is); (case a17 => k_is); (case l17 => k_is); (case c17 => k_is); (case k17 => k_is); (case a18 => k_is); (case l18 => k_is); (case c18 => k_is); (case k18 => k_is); (case a19 => k_is); (case l19 => k_is); (case c19 => k_is); (case k19 => k_is); (case a20 => k_is); (case l20 => k_is); (case c20 => k_is); (case k20 => k_is); (case a21 => k_is); (case l21 => k_is); (case c21 => k_is); (case k21 => k_is); (case a22 => k_is); (case l22 => k_is); (case c22 => k_is); (case k22 => k_is); (case a23 => k_is); (case l23 => k_is); (case c23 => k_is); (case k23 => k_is); (case a24 => k_is); (case l24 => k_is); (case c24 => k_is); (case k24 => k_is); (case a25 => k_is); (case l25 => k_is); (case c25 => k_is); (case k25 => k_is); (case a26 => k_is); (case l26 => k_is); (case c26 => k_is); (case k26 => k_is); (case a27 => k_is); (case l27 => k_is); (case c27 => k_is); (case k27 => k_is); (case a28 => k_is); (case l28 => k_is); (case c28 => k_is); (case k28 => k_is); (case a29 => k_is); (case l29 => k_is); (case c29 => k_is); (case k29 => k_is); (case a30 => k_is); (case l30 => k_is); (case c30 => k_is); (case k30 => k_is); (case a31 => k_is); (case l31 => k_is); (case c31 => k_is); (case k31 => k_is); (case a32 => k_is); (case l32 => k_is); (case c32 => k_is); (case k32 => k_is); (case a33 => k_is); (case l33 => k_is); (case c33 => k_is); (case k33 => k_is); (case a34 => k_is); (case l34 => k_is); (case c34 => k_is); (case k34 => k_is); (case a35 => k_is); (case l35 => k_is); (case c35 => k_is); (case k35 => k_is); (case a36 => k_is); (case l36 => k_is); (case c36 => k_is); (case k36 => k_is); (case a37 => k_is); (case l37 => k_is); (case c37 => k_is); (case k37 => k_is); (case a38 => k_is); (case l38 => k_is); (case c38 => k_is); (case k38 => k_is); (case xh => k_is); (case xt => k_is); (case xa0 => k_is); (case xl0 => k_is); (case xs0 => k_is); (case xg0 => k_is); (case xo0 => k_is); (case xc0 => k_is); (case xf0 => k_is); (case xk0 => k_is); (case xe0 => k_is); (case xy0 => k_is); (case xi0 => k_is); (case xw0 => k_is); (case xj0 => k_is); (case xr0 => k_is); (case xz0 => k_is); (case xv0 => k_is); (case xa1 => k_is); (case xl1 => k_is); (case xs1 => k_is); (case xg1 => k_is); (case xo1 => k_is); (case xc1 => k_is); (case xf1 => k_is); (case xk1 => k_is); (case xe1 => k_is); (case xy1 => k_is); (case xi1 => k_is); (case xw1 => k_is); (case xj1 => k_is); (case xr1 => k_is); (case xz1 => k_is); (case xv1 => k_is); (case xa2 => k_is); (case xl2 => k_is); (case xs2 => k_is); (case xg2 => k_is); (case xo2 => k_is); (case xc2 => k_is); (case xf2 => k_is); (case xk2 => k_is); (case xe2 => k_is); (case xy2 => k_is); (case xi2 => k_is); (case xw2 => k_is); (case xj2 => k_is); (case xr2 => k_is); (case xz2 => k_is); (case xv2 => k_is); (case xa3 => k_is); (case xl3 => k_is); (case xs3 => k_is); (case xg3 => k_is); (case xo3 => k_is); (case xc3 => k_is); (case xf3 => k_is); (case xk3 => k_is); (case xe3 => k_is); (case xy3 => k_is); (case z0 => k_is); (case z1 => k_is); (case z2 => k_is); (case z3 => k_is); (case z4 => k_is); (case z5 => k_is); (case z6 => k_is); (case z7 => k_is); (case z8 => k_is); (case z9 => k_is); (case z10 => k_is); (case z11 => k_is); (case z12 => k_is); (case z13 => k_is); (case z14 => k_is); (case z15 => k_is); (case z16 => k_is); (case z17 => k_is); (case z18 => k_is); (case z19 => k_is)
