import PyProof.Rows.All
import Wide.All
import OpenK.AllK
import Wide.FinOn
import HandS.ExcInit
import KE.KExcInit
import KE.KExcIs
import HandS.ForMost
import HandS.Wide
import HandS.Zip
import HandS.Style
import HandS.IsInst
import HandS.Walk
import HandS.TupAny
import HandS.Defaults
import KE.DataMinMax
import KE.GoesNew
import HandS.NoneIn
import HandS.Deep
import HandS.More
import HandS.TupMul
import HandS.Conv
import KE.KTupSum
import HandS.Text
import HandS.Iter
import HandS.RevRange
import KE.GoesMore
import PyProof.StrBlock2
import HandS.Star
import HandS.Dict
import HandS.SortKw
import KE.KDictZip
import KE.GoesEnum
import KE.KDictItemsList
import KE.KItemsList
import HandS.ListItems
import PyProof.P3In
import HandS.CallSlots
import HandS.WordsExc
import HandS.ExcOwn
import HandS.Finally
import HandS.NamedTupGet
import HandS.OwnIter
import HandS.FStr
import PyProof.CallFns
import PyProof.InstSpecial
import HandS.NestedK
import HandS.EndTab
import PyProof.SumAny
import PyProof.ListOps
import PyProof.Walks
import PyProof.FactsAll.subtypes_4
import HandS.ExcValue
import KE.SortData
import KE.KeyNested
import KE.KDictKeyed
import HandS.TupSets
import HandS.SetBool
import PyProof.ReprReads
import HandS.Ends
import HandS.MakeKw
import PyProof.ReprRoads
import PyProof.ReprLen
import PyProof.Rows.StrJoinRep
import PyProof.Rows.StrCountLaw
import PyProof.P3Eq
import KE.KNestM
import PySem.Challenge.RW_dunebooks_k56_stretches_of_two_books
set_option Elab.async false
set_option linter.all false
set_option maxRecDepth 100000
namespace PySem
namespace OEY
open PySem.W PySem.Calls PyProof.Rows PySem.HandSPX
open Builtin Builtin.ObjectAttr
structure Over (B newId initId : String) (tl : List Value) : Prop where
  facts : ExcBaseFacts B newId initId tl
  past : ∀ self, refuseLoop self "__setattr__" tl = pure ()
  obj : tl.contains (.type "object") = true
  kind : typeOf (.type B) = pure (.type "type")
  boot : bootBuiltins (Str.ofString B) = some (.type B)
  solid : Manifest.isStub B = false
  given : handedIn (.builtin initId) = true
theorem over_value : Over "ValueError" "ValueError.__new__" "ValueError.__init__" [.type "ValueError", .type "Exception", .type "BaseException", .type "object"] :=
  ⟨F.excBase_ValueError, F.store_ValueError.passes, by decide +kernel, by kernel_rfl, by decide +kernel, by decide +kernel, by decide +kernel⟩
theorem over_lookup : Over "LookupError" "LookupError.__new__" "LookupError.__init__" [.type "LookupError", .type "Exception", .type "BaseException", .type "object"] :=
  ⟨F.excBase_LookupError, F.store_LookupError.passes, by decide +kernel, by kernel_rfl, by decide +kernel, by decide +kernel, by decide +kernel⟩
theorem over_overflow : Over "OverflowError" "OverflowError.__new__" "OverflowError.__init__" [.type "OverflowError", .type "ArithmeticError", .type "Exception", .type "BaseException", .type "object"] :=
  ⟨F.excBase_OverflowError, F.store_OverflowError.passes, by decide +kernel, by kernel_rfl, by decide +kernel, by decide +kernel, by decide +kernel⟩
section
variable {prog : Program} {w : World} {A : Around} {R : Result → Shared → Prop} {hp : Heap} {g : Array GenState} {d : Drawn} {t : Nat} {os : OsState}
theorem first_field {K : W.Frag} {field : Str} {tk : Tok} {y : Value} {x C : Addr} {row : Array Value} {cd : ClassData} {tl : List Value} (KI : K.In hp) (there : hp.get? x = some { cls := .ref C, data := .fields row }) (hcd : W.clsIn K C = some cd)
    (past : ∀ self, refuseLoop self "__setattr__" tl = pure ()) (obj : tl.contains (.type "object") = true) (hm : cd.mro = .ref C :: tl) (hh : cd.hasDict = true) (ha : W.findIn K (.ref C) field = some none)
    (fin : ∀ h' tk' dx, (∀ b o, b ≠ x → hp.get? b = some o → h'.get? b = some o) → hp.objs.size ≤ dx → dx ≠ x → h'.get? x = some { cls := .ref C, dict := some dx, data := .fields row } →
      h'.Ns1 dx (fun z => if z = field then some y else none) → R (.ok (.ret .none)) ⟨h', g, d, tk', os⟩) :
    codeAny (model prog w) A (.call (.builtin "object.__setattr__") ⟨[.ref x, .str field tk, y], []⟩) R ⟨hp, g, d, t, os⟩ := by
  have J : W.InstAt hp x { cls := .ref C, data := .fields row } C none := ⟨there, rfl, rfl, trivial⟩
  have far : x ≠ hp.objs.size := Nat.ne_of_lt (Heap.lt_size there)
  have hob : cd.mro.contains (.type "object") = true := by rw [hm, List.contains_cons, obj, Bool.or_true]
  have hne : cd.mro.isEmpty = false := by rw [hm]; rfl
  have isO : W.Looks (model prog w) hp (isInstance (.ref x) (.type "object")) true := J.type.andThen (W.looks_mroIn KI (by unfold W.mroIn; rw [hcd, Option.bind_some, if_neg (by rw [hne]; decide), hob]))
  refine codeAny_call_builtin F.store_object.slot.plain F.store_object.entry (@W.check_slot (model prog w) _ _ ⟨hp, g, d, t, os⟩ "object.__setattr__" "object" "__setattr__" (.ref x) [.str field tk, y] [] _ F.store_object.kind F.store_object.split isO (F.store_object.args (.ref x) (.str field tk) y) ?_)
  have lm : W.Looks (model prog w) hp (mroOf (.ref C)) cd.mro := (W.looks_clsIn KI hcd).andThen .now
  have ls : W.Looks (model prog w) hp (storeTaker? none) none := .now
  have lc : W.Looks (model prog w) hp (classData C) cd := W.looks_clsIn KI hcd
  have go : refuseLoop (.ref x) "__setattr__" cd.mro = pure () := by rw [hm, refuseLoop_ref]; exact past _
  rw [W.osa_eq, refuse_eq]
  refine wpAny_bind (wpAny_bind (J.type.at (wpAny_bind (lm.at ?_))))
  rw [go]
  refine wpAny_pure (wpAny_bind (J.type.at (wpAny_bind ((W.looks_findIn KI ha).at (wpAny_bind (ls.at ?_))))))
  show wpAny _ _ (storeInOwnDict (.ref x) (.ref C) (.str field tk) field y false) _ _ _
  obtain ⟨nm, bs, mro, ns, qn, hd, sn, sb, ab, col, del⟩ := cd
  dsimp only at hh
  subst hh
  unfold storeInOwnDict ownDictForStores
  repeat (first | with_reducible refine store_in_new ?_ ?_ | with_reducible refine wpAny_loadPart_at there ?_ | with_reducible refine lc.at ?_ | wp_step)
  · exact ⟨_, #[], _, (Heap.get?_update_ne _ _ _ _ far.symm).trans (Heap.get?_push_at rfl rfl), rfl, fun e he => absurd he (by simp), fun _ => rfl⟩
  · intro h' tk' hn' hs
    have pushed : (hp.push { cls := .type "dict", data := .dict #[] }).get? x = some { cls := .ref C, data := .fields row } := Heap.get?_push_of_some _ there
    refine fin h' tk' hp.objs.size (fun b o hb ho => ?_) (Nat.le_refl _) far.symm ?_ hn'
    · exact (hs.2 b (Nat.ne_of_lt (Heap.lt_size ho))).trans ((Heap.get?_update_ne _ _ _ _ hb).trans (Heap.get?_push_of_some _ ho))
    · exact (hs.2 x far).trans (Heap.get?_update_self _ pushed rfl)
end
end OEY
end PySem
namespace L2
open PySem PySem.Spec PyProof.Rows
structure OwnX (K : PySem.W.Frag) (C : Addr) (newId : String) (tl : List Value) : Prop where
  cls : ∃ nm q N bs sn sub ab col dd k0 k1 k2 k3 k5, K.lookup C = some (excClassObj nm q C N bs tl true sn sub ab col dd k0 k1 k2 k3 k5 newId)
  sa : PySem.W.findIn K (.ref C) "__setattr__" = some (some (.builtin "object.__setattr__"))
  exC : PySem.W.subIn K (.ref C) (.type "BaseException") = some true
  tyC : PySem.W.typeIn K (.ref C) = some (.type "type")
  kC : PySem.W.keepIn K (.ref C) = true
section
variable {X : Cx} {pins : List (Addr × Obj)} {σ : St} {H : Hp} {s : Shared} {a C dx : Addr} {f : Str} {y : V} {u : Value} {fs : List (Str × V)} {E : Value → Shared → Prop} {A : Around} {B newId initId : String} {tl : List Value}
theorem oy_store {Q : Unit → Shared → Prop} (O : PySem.OEY.Over B newId initId tl) (T : OwnX X.K C newId tl) (I : Inv X pins σ H s) (e : H a = some (exo a C none)) (hno : PySem.W.findIn X.K (.ref C) f = some none) (ry : RelV y u)
    (fin : ∀ dx s', H dx = none → dx ≠ a → Inv X pins σ (upd (upd H dx (exd dx [(f, y)])) a (exo a C (some dx))) s' → Q () s') : wpAny (model X.prog X.w) A (setAttr (.ref a) f u) Q E s := by
  obtain ⟨nm, q, N, bs, sn, sub, ab, col, dd, k0, k1, k2, k3, k5, hC⟩ := T.cls
  have known : PySem.W.clsIn X.K C = some { name := nm, bases := bs, mro := .ref C :: tl, ns := N, qualname := q, hasDict := true, slotNames := sn, subclasses := sub, abstract := ab, collection := col, hasDel := false } := by unfold PySem.W.clsIn; rw [hC] <;> rfl
  obtain ⟨t1, ho⟩ := exo_at I.hok e
  obtain ⟨hp, g, d, t, os⟩ := s
  refine PySem.W.set_plain I.kIn (ox := { cls := .ref C, dict := none, data := .fields #[.ref t1, .none, .none, .none, .bool false, .none] }) (od := none) ⟨ho, rfl, rfl, trivial⟩ T.sa ?_
  refine PySem.OEY.first_field I.kIn ho known O.past O.obj rfl rfl hno (fun h' tk' dx k dn dne hx hn => ?_)
  have free : H dx = none := I.hok.fresh dn
  have nd : ∀ {b : Addr} {o : Obj}, hp.get? b = some o → b ≠ dx := fun {b o} q => Nat.ne_of_lt (Nat.lt_of_lt_of_le (Heap.lt_size q) dn)
  have na : ∀ {b : Addr}, H b = none → b ≠ a := fun {b} n z => by rw [z, e] at n; cases n
  have Un1 : Un X.fs [] H (upd (upd H dx (exd dx [(f, y)])) a (exo a C (some dx))) hp h' := ⟨fun b o q n _ _ => k b o (na n) q, fun b o q n _ _ => ⟨o.slots, k b o (na n) q⟩, fun b o q n _ => by rw [upd_ne (na n), upd_ne (nd q)]; exact n, fun b o q _ => by
      by_cases hb : b = a
      · exact ⟨_, by rw [hb]; exact hx⟩
      · exact ⟨o, k b o hb q⟩, fun b xs q => by rw [upd_ne (at_ne e q exo_tup), upd_ne (ne_of_none q free)]; exact q, fun b o v q => by rw [upd_ne (at_ne e q exo_frz), upd_ne (ne_of_none q free)]; exact q,
      fun b ps q => ⟨#[], by rw [upd_ne (at_ne e q exo_tbl), upd_ne (ne_of_none q free), q]; simp⟩⟩
  refine fin dx _ free dne (I.un (t' := tk') Un1 fun b o q => ?_)
  by_cases hb : b = a
  · subst hb; rw [upd_same] at q; cases q; exact exo_ok hx
  · rw [upd_ne hb] at q
    by_cases hd : b = dx
    · subst hd; rw [upd_same] at q; cases q
      exact exd_ok hn (relO_put (fs := []) ry fun g => True.intro)
    · rw [upd_ne hd] at q
      refine (I.hok b o q).stay (fun c v hc z => k c v ?_ z) (fun c hc => ?_) fun c xs hc => ?_
      · rcases hc with hc | hc
        · rw [hc]; exact hb
        · exact at_ne e hc exo_own
      · rw [upd_ne (at_ne e hc exo_own), upd_ne (ne_of_none hc free)]; exact hc
      · rw [upd_ne (at_ne e hc exo_tup), upd_ne (ne_of_none hc free)]; exact hc
theorem oy_init {us : List Value} {Q : Value → Shared → Prop} (O : PySem.OEY.Over B newId initId tl) (T : OwnX X.K C newId tl) (I : Inv X pins σ H s) (e : H a = some (exo a C none)) (hl : us.length ≤ sizeLine) (fin : ∀ s', Inv X pins σ H s' → Q .none s') :
    wpAny (model X.prog X.w) A (call (.builtin initId) (.ref a :: us)) Q E s := by
  obtain ⟨nm, q, N, bs, sn, sub, ab, col, dd, k0, k1, k2, k3, k5, hC⟩ := T.cls
  obtain ⟨t1, ho⟩ := exo_at I.hok e
  obtain ⟨hp, g, d, t, os⟩ := s
  refine wpAny_call (PySem.HandSPX.init_base O.facts (fun _ => rfl) (I.kIn _ _ hC) ho hl fun h' t2 k hx => ?_)
  have J := I.write (t' := t) (x := a) (e := a) (o := exo a C none) (by rw [e]; exact True.intro) (.inl rfl) k ⟨_, hx⟩ (exo_ok hx)
  have same : upd H a (exo a C none) = H := funext fun b => by
    by_cases hb : b = a
    · rw [hb, upd_same, e]
    · rw [upd_ne hb]
  rw [same] at J
  exact fin _ J
end
def tOyI (K : PySem.W.Frag) (newId : String) (tl : List Value) (ta : TA) : TE := fun σ H Q => ta σ H fun vs H1 => ∃ (a C : Addr) (ws : List V), vs = .ref a :: ws ∧ ws.length ≤ 1000 ∧ OwnX K C newId tl ∧ H1 a = some (exo a C none) ∧ Q .non H1
def tOyS (K : PySem.W.Frag) (newId : String) (tl : List Value) (f : Str) (to te : TE) : TS := fun D σ H => te σ H fun y H1 => to σ H1 fun x H2 => ∃ a C : Addr, x = .ref a ∧ OwnX K C newId tl ∧ PySem.W.findIn K (.ref C) f = some none ∧
  H2 a = some (exo a C none) ∧ ∀ dx, H2 dx = none → dx ≠ a → D.nx σ (upd (upd H2 dx (exd dx [(f, y)])) a (exo a C (some dx)))
section
variable {X : Cx} {o e : Expr} {es : List Expr} {to te : TE} {ta : TA} {f : Str} {p p' p1 p2 pos : Pos} {B newId initId : String} {tl : List Value}
theorem pe_oyinit {pl : Sem Bool} (O : PySem.OEY.Over B newId initId tl) (hg : Gl X (Str.ofString B)) (hm : X.mg (Str.ofString B) = none) (vV : PySem.W.findCls X.K (.type B) (.type "type") "__init__" = some (.val (.builtin initId))) (ha : PA X (e :: es) ta)
    (hn : Str.ofString B ≠ "__name__" := by decide) (hdb : (Str.ofString B == ("__debug__" : Str)) = false := by decide)
    (hc : eval (.Call (.Attribute (.Name (Str.ofString B) p1) "__init__" p2) (e :: es) [] pos) X.env = (do
      let ov ← eval (.Name (Str.ofString B) p1) X.env
      standAt p2.atName
      let (f, first) ← holding [ov] (getMethod ov "__init__" pl)
      callWith pos f first (backTo pos (starEach (e :: es) X.env)) (backToKw pos (keywordEach [] X.env))) := by rfl)
    (he : starEach (e :: es) X.env = (false, eval e X.env) :: starEach es X.env := by rfl) (hpl : (backTo pos (starEach es X.env)).any (·.1) = false := by rfl) :
    PE X (.Call (.Attribute (.Name (Str.ofString B) p1) "__init__" p2) (e :: es) [] pos) (tOyI X.K newId tl ta) := by
  refine ⟨fun pins s σ H Q I h => PySem.W.methodCall_KW (ld_blt I hg hm O.boot ?_ hn hdb) hc⟩
  obtain ⟨m, fr⟩ := I.fr
  refine PySem.W.method_type fr I.ok.mod.kin O.kind O.solid vV O.given ?_
  show wpAny _ _ (callWith pos (Value.builtin initId) [] (backTo pos (starEach (e :: es) X.env)) []) _ _ _
  refine PyProof.Rows.callWith_method1 (thn (ha.run pos pins _ σ H _ (I.tok _) h) fun us s1 ⟨vs, H1, I1, r1, a, C, ws, ev, hl, T, ea, q⟩ => ?_) he hpl
  subst ev
  match us, r1 with
  | _ :: ur, .cons ra rw' =>
    cases ra
    exact oy_init O T I1 ea (by rw [← Paired.length rw', sizeLine_eq]; omega) fun s' J => ⟨.non, H1, J, rfl, q⟩
theorem ps_oyst (O : PySem.OEY.Over B newId initId tl) (ho : PE X o to) (he : PE X e te) (hs : swapsWith e (some (.Attribute o f p')) pos.line X.env = pure false := by rfl) : PS X (.Assign [.Attribute o f p'] e pos) (tOyS X.K newId tl f to te) :=
  ⟨fun pins s σ H D I h => plainObj_wpAny_Assign_Attribute (thn (he.run pins s σ H _ I h) fun v s1 ⟨y, H1, I1, r1, q1⟩ => thn (ho.run pins s1 σ H1 _ I1 q1) fun u s2 ⟨x, H2, I2, r2, a, C, ex, T, hno, ea, q⟩ => by
    subst ex
    cases r2
    exact oy_store O T I2 ea hno r1 fun dx s' n ne J => ⟨σ, _, J, q dx n ne⟩) hs⟩
theorem pmk_oy {CX : CXT} {x : Str} {C fI : Addr} {k : Nat} {fd : FuncData} {ps : List Str} {sp : Sp} {ds : List Value} {dvs : List V} (O : PySem.OEY.Over B newId initId tl) (T : OwnX X.K C newId tl) (iC : PySem.W.findIn X.K (.ref C) "__init__" = some (some (.ref fI))) (tI : PySem.W.typeIn X.K (.ref fI) = some (.type "function"))
    (F1 : FnOk X.prog X.w X.K X.mg X.base CX k fI fd ps sp) (hr : Room (k + 1) X.A) (hb : Binds X.K fd ps ds) (hd : Vals dvs ds) (hx : Passes CX X (fun _ _ _ => False)) (hg : Gl X x) (hm : X.mg x = some (.ref C)) (ha : PA X (e :: es) ta)
    (hdb : (x == ("__debug__" : Str)) = false := by decide) (he : starEach (e :: es) X.env = (false, eval e X.env) :: starEach es X.env := by rfl) (hpl : (backTo pos (starEach es X.env)).any (·.1) = false := by rfl) :
    PMk X (.Call (.Name x p) (e :: es) [] pos) (tMkO C sp dvs ta) := by
  intro pins s σ H Q I h
  obtain ⟨nm, q, N, bs, sn, sub, ab, col, dd, k0, k1, k2, k3, k5, hC⟩ := T.cls
  refine wpAny_Call_Name_kw (ld_glob I hg hm ?_ hdb)
  refine PySem.W.callWith_K (h₀ := X.base) I.ok.mod.kin T.kC (thn (ha.run pos pins s σ H _ I h) fun us s1 ⟨vs, H1, I1, r1, hz, q1⟩ => ⟨I1.kIn, ?_⟩) he hpl
  show wpAny _ _ (call (.ref C) us) _ _ _
  obtain ⟨hp, g, dr, tk, os⟩ := s1
  have up : hp.objs.size ≤ hp.objs.size + 1 := Nat.le_succ _
  have hn : H1 (hp.objs.size + 1) = none := I1.hok.fresh up
  have hq := q1 (hp.objs.size + 1) hn
  have kk : ∀ b o, hp.get? b = some o → ((hp.push (PySem.W.kdv_tup us)).push (PySem.HandSPX.excO C hp.objs.size)).get? b = some o := fun b o e => Heap.get?_push_of_some _ (Heap.get?_push_of_some _ e)
  have laid : ((hp.push (PySem.W.kdv_tup us)).push (PySem.HandSPX.excO C hp.objs.size)).get? (hp.objs.size + 1) = some (PySem.HandSPX.excO C hp.objs.size) := by heap_get
  have I2 : Inv X pins σ (upd H1 (hp.objs.size + 1) (exo (hp.objs.size + 1) C none)) ⟨(hp.push (PySem.W.kdv_tup us)).push (PySem.HandSPX.excO C hp.objs.size), g, dr, tk, os⟩ :=
    I1.laid (t' := tk) (a := hp.objs.size + 1) (o := exo (hp.objs.size + 1) C none) (h' := (hp.push (PySem.W.kdv_tup us)).push (PySem.HandSPX.excO C hp.objs.size)) kk up (exo_ok laid)
  have r2 : Vals (V.ref (hp.objs.size + 1) :: (vs ++ dvs)) (Value.ref (hp.objs.size + 1) :: (us ++ ds)) := .cons rfl (r1.append hd)
  have hl : (Value.ref (hp.objs.size + 1) :: us ++ ds).length = ps.length := r2.length.symm.trans (F1.len _ _ _ _ hq)
  have hus : us.length ≤ sizeLine := by rw [← Paired.length r1, sizeLine_eq]; omega
  refine wpAny_call (PySem.HandSPX.call_own O.facts (fun _ => rfl) (I1.kIn _ _ hC) (PySem.W.looks_findIn I1.kIn iC) (fun self => PySem.W.bind_fn I1.kIn self tI) hus
    (codeAny_mono (F1.run _ X.stack _ _ ⟨Value.ref (hp.objs.size + 1) :: us, []⟩ (Value.ref (hp.objs.size + 1) :: (us ++ ds)) _ _ (fun _ _ _ => False) (hr.make C us []) (I2.env0.make C us []) (hb _ (Value.ref (hp.objs.size + 1) :: us) I2.kIn hl) r2 hq) fun r s' hq' => ?_))
  match r, hq' with
  | .error er, hq' => exact hx pins σ _ _ er s' I2 hq'
  | .ok (.ret u), hq' =>
    obtain ⟨v, H2, os2, bare2, un2, hok2, rv, ev, d, fs, ea, ed, hd1, q2⟩ := hq'
    subst ev
    obtain ⟨h2, g2, d2, t2, os'⟩ := s'
    exact ⟨rv, mk_end (raises_own T.exC T.tyC) I1 up kk un2 hok2 os2 bare2 ea ed hd1 q2⟩
  | .ok .next, hq' => exact hq'.elim
  | .ok .brk, hq' => exact hq'.elim
  | .ok .cont, hq' => exact hq'.elim
end
end L2
namespace L2
open PySem PySem.Spec PyProof.Rows
def exk (a C dd : Addr) : HO := .ext fun h => ∃ (oe : Obj) (vs : Array Value), h.get? a = some oe ∧ oe.cls = .ref C ∧ oe.dict = some dd ∧ oe.data = .fields vs
def xfield (c : Str) : Str :=
  if c = "Clash" then "places" else if c = "Against" then "place" else if c = "Astray" then "number" else if c = "BadText" then "at" else if c = "BadRow" then "row" else
  if c = "NoPost" then "post" else if c = "NoOrder" then "number" else if c = "NoCore" then "core" else "many"
inductive XB where
  | v | l | o
def xb (c : Str) : XB := if c ∈ (["Clash", "Against", "Unlike", "Astray", "BadText", "BadRow"] : List Str) then .v else if c = "TooMany" then .o else .l
def XB.tl : XB → List String
  | .v => ["ValueError", "Exception", "BaseException", "object"]
  | .l => ["LookupError", "Exception", "BaseException", "object"]
  | .o => ["OverflowError", "ArithmeticError", "Exception", "BaseException", "object"]
def XB.nm : XB → String
  | .v => "ValueError"
  | .l => "LookupError"
  | .o => "OverflowError"
def XB.new : XB → String
  | .v => "ValueError.__new__"
  | .l => "LookupError.__new__"
  | .o => "OverflowError.__new__"
def XB.ini : XB → String
  | .v => "ValueError.__init__"
  | .l => "LookupError.__init__"
  | .o => "OverflowError.__init__"
theorem XB.over (b : XB) : PySem.OEY.Over b.nm b.new b.ini (b.tl.map Value.type) := by
  cases b
  · exact PySem.OEY.over_value
  · exact PySem.OEY.over_lookup
  · exact PySem.OEY.over_overflow
end L2
namespace Pl
open PySem PySem.Spec PyProof.Rows L2
inductive D where
  | non | bl (b : Bool) | int (i : Int) | str (x : Str) | lst (xs : List D) | tup (xs : List D) | scr (ns : List Int) | adr (a : Addr) | exc (c : Str) (y : D)
mutual
inductive Rep (K : PySem.W.Frag) (F : Hp) : V → D → Prop
  | non : Rep K F .non .non
  | bl (b : Bool) : Rep K F (.bl b) (.bl b)
  | int (i : Int) : Rep K F (.int i) (.int i)
  | str (x : Str) : Rep K F (.str x) (.str x)
  | lst {a : Addr} {vs : List V} {ds : List D} : F a = some (.lst vs) → Reps K F vs ds → Rep K F (.ref a) (.lst ds)
  | tup {a : Addr} {vs : List V} {ds : List D} : F a = some (.tup vs) → Reps K F vs ds → Rep K F (.ref a) (.tup ds)
  | scr {a : Addr} {ns : List Int} : SqL K F a (ns.map V.int) → Rep K F (.ref a) (.scr ns)
  | adr (a : Addr) : Rep K F (.ref a) (.adr a)
  | exc {a C dd : Addr} {v : V} {c : Str} {y : D} : PySem.W.nsIn K mainGlobals c = some (some (.ref C)) → F a = some (exk a C dd) → F dd = some (.xd [(xfield c, v)]) → Rep K F v y → Rep K F (.ref a) (.exc c y)
inductive Reps (K : PySem.W.Frag) (F : Hp) : List V → List D → Prop
  | nil : Reps K F [] []
  | cons {v : V} {vs : List V} {d : D} {ds : List D} : Rep K F v d → Reps K F vs ds → Reps K F (v :: vs) (d :: ds)
end
section
variable {K : PySem.W.Frag} {F F' : Hp}
mutual
theorem Rep.mono (e : Same F F') : ∀ {v : V} {d : D}, Rep K F v d → Rep K F' v d
  | _, _, .non => .non
  | _, _, .bl b => .bl b
  | _, _, .int i => .int i
  | _, _, .str x => .str x
  | _, _, .lst h r => .lst (e _ _ h) (Reps.mono e r)
  | _, _, .tup h r => .tup (e _ _ h) (Reps.mono e r)
  | _, _, .scr h => .scr (e.seq h)
  | _, _, .adr a => .adr a
  | _, _, .exc h1 h2 h3 r => .exc h1 (e _ _ h2) (e _ _ h3) (Rep.mono e r)
theorem Reps.mono (e : Same F F') : ∀ {vs : List V} {ds : List D}, Reps K F vs ds → Reps K F' vs ds
  | _, _, .nil => .nil
  | _, _, .cons h r => .cons (Rep.mono e h) (Reps.mono e r)
end
theorem Reps.length : ∀ {vs : List V} {ds : List D}, Reps K F vs ds → vs.length = ds.length
  | _, _, .nil => rfl
  | _, _, .cons _ r => by simp [Reps.length r]
theorem Reps.get : ∀ {vs : List V} {ds : List D} {i : Nat} {d : D}, Reps K F vs ds → ds[i]? = some d → ∃ v, vs[i]? = some v ∧ Rep K F v d
  | _, _, _, _, .nil, e => by simp at e
  | _, _, 0, _, .cons r _, e => by simp at e; subst e; exact ⟨_, rfl, r⟩
  | _, _, i + 1, d, .cons _ t, e => by
    obtain ⟨u, h1, h2⟩ := Reps.get (i := i) (d := d) t (by simpa using e)
    exact ⟨u, by simpa using h1, h2⟩
theorem Reps.append : ∀ {vs ws : List V} {ds es : List D}, Reps K F vs ds → Reps K F ws es → Reps K F (vs ++ ws) (ds ++ es)
  | _, _, _, _, .nil, s => s
  | _, _, _, _, .cons r t, s => .cons r (Reps.append t s)
theorem Reps.one {v : V} {d : D} (h : Rep K F v d) : Reps K F [v] [d] := .cons h .nil
theorem Reps.set {v : V} {d : D} (r : Rep K F v d) : ∀ {vs : List V} {ds : List D} (i : Nat), Reps K F vs ds → Reps K F (vs.set i v) (ds.set i d)
  | _, _, _, .nil => .nil
  | _, _, 0, .cons _ t => .cons r t
  | _, _, i + 1, .cons q t => .cons q (Reps.set r i t)
theorem Reps.drop : ∀ {vs : List V} {ds : List D} (n : Nat), Reps K F vs ds → Reps K F (vs.drop n) (ds.drop n)
  | _, _, 0, h => h
  | _, _, _ + 1, .nil => .nil
  | _, _, n + 1, .cons _ t => Reps.drop n t
theorem Reps.take : ∀ {vs : List V} {ds : List D} (n : Nat), Reps K F vs ds → Reps K F (vs.take n) (ds.take n)
  | _, _, 0, _ => .nil
  | _, _, _ + 1, .nil => .nil
  | _, _, n + 1, .cons r t => .cons r (Reps.take n t)
theorem Reps.reverse : ∀ {vs : List V} {ds : List D}, Reps K F vs ds → Reps K F vs.reverse ds.reverse
  | _, _, .nil => .nil
  | _, _, .cons r t => by
    rw [List.reverse_cons, List.reverse_cons]
    exact (Reps.reverse t).append (.one r)
theorem Reps.ints : ∀ {vs : List V} {ns : List Int}, Reps K F vs (ns.map D.int) → vs = ns.map V.int
  | _, [], .nil => rfl
  | _, n :: ns, .cons h t => by cases h; rw [Reps.ints t]; rfl
theorem Reps.ofInts : ∀ (ns : List Int), Reps K F (ns.map V.int) (ns.map D.int)
  | [] => .nil
  | n :: ns => .cons (.int n) (Reps.ofInts ns)
theorem Reps.bls : ∀ {vs : List V} {bs : List Bool}, Reps K F vs (bs.map D.bl) → vs = bs.map V.bl
  | _, [], .nil => rfl
  | _, n :: ns, .cons h t => by cases h; rw [Reps.bls t]; rfl
end
inductive Fd where
  | val (d : D) | own (a : Addr) (xs : List D)
def IsDic (φ : Heap → Prop) : Prop := ∃ a : Addr, ∀ h : Heap, φ h → ∃ (o : Obj) (es : Array DictEntry) (ep : Nat), h.get? a = some o ∧ o.data = .dict es ep
def Mut : HO → Prop
  | .lst _ => True
  | .dK _ => True
  | .ins _ _ _ => True
  | .own _ => True
  | .frz _ _ => True
  | .dT _ => True
  | .ext φ => IsDic φ
  | _ => False
structure GS where
  root : Addr
  foot : List Addr
  at' : PySem.W.Frag → Hp → Hp → Prop
  mono : ∀ {K : PySem.W.Frag} {F F' H H' : Hp}, at' K F H → Same F F' → (∀ p ∈ foot, H' p = H p) → at' K F' H'
  muts : ∀ {K : PySem.W.Frag} {F H : Hp}, at' K F H → ∀ p ∈ foot, ∃ o, H p = some o ∧ Mut o
  nl : Bool
  drop : nl = true → ∀ {K : PySem.W.Frag} {F F' H : Hp}, (∀ b xs, F b = some (.tup xs) → F' b = some (.tup xs)) → at' K F H → at' K F' H
inductive Sh where
  | dic (a : Addr) (ps : List (L2.Key × D)) | ins (a C dx : Addr) (fs : List (Str × Fd))
  | dicL (a : Addr) (o : Obj) (kvs : List (L2.Key × V)) (ps : List (L2.Key × D))
  | gen (g : GS)
inductive Cell where
  | val (d : D) | own (a : Addr) (xs : List D) | box (s : Sh)
abbrev Ro := List (Option Cell)
def KvR (K : PySem.W.Frag) (F : Hp) : List (L2.Key × V) → List (L2.Key × D) → Prop
  | [], [] => True
  | p :: ps, q :: qs => p.1 = q.1 ∧ Rep K F p.2 q.2 ∧ KvR K F ps qs
  | _, _ => False
def Fd.foot : Fd → List Addr
  | .val _ => []
  | .own a _ => [a]
def Fd.At (K : PySem.W.Frag) (F H : Hp) (v : V) : Fd → Prop
  | .val d => Rep K F v d
  | .own a xs => v = .ref a ∧ ∃ vs, H a = some (.lst vs) ∧ Reps K F vs xs
def FsR (K : PySem.W.Frag) (F H : Hp) : List (Str × V) → List (Str × Fd) → Prop
  | [], [] => True
  | p :: ps, q :: qs => p.1 = q.1 ∧ q.2.At K F H p.2 ∧ FsR K F H ps qs
  | _, _ => False
def fsFoot (fs : List (Str × Fd)) : List Addr := fs.flatMap fun p => p.2.foot
def Sh.root : Sh → Addr
  | .dic a _ => a
  | .ins a _ _ _ => a
  | .dicL a _ _ _ => a
  | .gen g => g.root
def Sh.foot : Sh → List Addr
  | .dic a _ => [a]
  | .ins a _ dx fs => a :: dx :: fsFoot fs
  | .dicL a _ _ _ => [a]
  | .gen g => g.foot
def Sh.At (K : PySem.W.Frag) (F H : Hp) : Sh → Prop
  | .dic a ps => ∃ kvs, H a = some (.dK kvs) ∧ KvR K F kvs ps
  | .ins a C dx fs => (fsFoot fs).Nodup ∧ ∃ vs, H a = some (.ins C dx vs) ∧ H dx = some (.own a) ∧ FsR K F H vs fs
  | .dicL a o kvs ps => H a = some (.frz o (.dK kvs)) ∧ KvR K F kvs ps
  | .gen g => g.at' K F H
theorem KvR.mono {K : PySem.W.Frag} {F F' : Hp} (sm : Same F F') : ∀ {kvs : List (L2.Key × V)} {ps : List (L2.Key × D)}, KvR K F kvs ps → KvR K F' kvs ps
  | [], [], _ => trivial
  | _ :: _, _ :: _, h => ⟨h.1, h.2.1.mono sm, KvR.mono sm h.2.2⟩
  | [], _ :: _, h => h.elim
  | _ :: _, [], h => h.elim
theorem FsR.mono {K : PySem.W.Frag} {F F' H H' : Hp} (sm : Same F F') : ∀ {vs : List (Str × V)} {fs : List (Str × Fd)}, (∀ p ∈ fsFoot fs, H' p = H p) → FsR K F H vs fs → FsR K F' H' vs fs
  | [], [], _, _ => trivial
  | (x, v) :: vs, (y, .val d) :: fs, e, h => ⟨h.1, h.2.1.mono sm, FsR.mono sm e h.2.2⟩
  | (x, v) :: vs, (y, .own a xs) :: fs, e, h => ⟨h.1, by
    obtain ⟨h1, ws, h2, h3⟩ := h.2.1
    exact ⟨h1, ws, by rw [e a (List.mem_cons_self)]; exact h2, h3.mono sm⟩, FsR.mono sm (fun p m => e p (List.mem_cons_of_mem _ m)) h.2.2⟩
  | [], _ :: _, _, h => h.elim
  | _ :: _, [], _, h => h.elim
theorem FsR.live {K : PySem.W.Frag} {F H : Hp} : ∀ {vs : List (Str × V)} {fs : List (Str × Fd)}, FsR K F H vs fs → ∀ p ∈ fsFoot fs, ∃ o, H p = some o
  | [], [], _, p, m => by cases m
  | (x, v) :: vs, (y, .val d) :: fs, h, p, m => FsR.live h.2.2 p m
  | (x, v) :: vs, (y, .own a xs) :: fs, h, p, m => by
    have m : p ∈ a :: fsFoot fs := m
    rcases List.mem_cons.mp m with rfl | m
    · obtain ⟨h1, ws, h2, h3⟩ := h.2.1
      exact ⟨_, h2⟩
    · exact FsR.live h.2.2 p m
  | [], _ :: _, h, _, _ => h.elim
  | _ :: _, [], h, _, _ => h.elim
theorem Sh.At.mono {K : PySem.W.Frag} {F F' H H' : Hp} {s : Sh} (h : s.At K F H) (sm : Same F F') (e : ∀ p ∈ s.foot, H' p = H p) : s.At K F' H' := by
  cases s with
  | dic a ps =>
    obtain ⟨kvs, h1, h2⟩ := h
    exact ⟨kvs, by rw [e a (by simp [Sh.foot])]; exact h1, h2.mono sm⟩
  | ins a C dx fs =>
    obtain ⟨n, vs, h1, h2, h3⟩ := h
    exact ⟨n, vs, by rw [e a (by simp [Sh.foot])]; exact h1, by rw [e dx (by simp [Sh.foot])]; exact h2, h3.mono sm fun p m => e p (by simp [Sh.foot, m])⟩
  | dicL a o kvs ps => exact ⟨by rw [e a (by simp [Sh.foot])]; exact h.1, h.2.mono sm⟩
  | gen g => exact g.mono h sm e
theorem Sh.At.live {K : PySem.W.Frag} {F H : Hp} {s : Sh} (h : s.At K F H) {p : Addr} (m : p ∈ s.foot) : ∃ o, H p = some o := by
  cases s with
  | dic a ps =>
    obtain ⟨kvs, h1, h2⟩ := h
    rw [List.mem_singleton.mp m]; exact ⟨_, h1⟩
  | ins a C dx fs =>
    obtain ⟨n, vs, h1, h2, h3⟩ := h
    have m : p ∈ a :: dx :: fsFoot fs := m
    rcases List.mem_cons.mp m with rfl | m
    · exact ⟨_, h1⟩
    rcases List.mem_cons.mp m with rfl | m
    · exact ⟨_, h2⟩
    · exact h3.live p m
  | dicL a o kvs ps => rw [List.mem_singleton.mp m]; exact ⟨_, h.1⟩
  | gen g => obtain ⟨o, q, _⟩ := g.muts h p m; exact ⟨o, q⟩
def InBox (ρ : Ro) (p : Addr) : Prop := ∃ (i : Nat) (s : Sh), ρ[i]? = some (some (.box s)) ∧ p ∈ s.foot
structure BxOk (K : PySem.W.Frag) (F G H : Hp) (σ : L2.St) (ρ : Ro) : Prop where
  box : ∀ (i : Nat) (s : Sh), ρ[i]? = some (some (.box s)) → σ[i]? = some (some (.ref s.root)) ∧ (∀ p ∈ s.foot, F p = none ∧ G p = none) ∧ s.At K F H
  bb : ∀ (i j : Nat) (s t : Sh) (p : Addr), ρ[i]? = some (some (.box s)) → ρ[j]? = some (some (.box t)) → p ∈ s.foot → p ∈ t.foot → i = j
  bo : ∀ (j : Nat) (a : Addr) (xs : List D), ρ[j]? = some (some (.own a xs)) → ¬ InBox ρ a
section
variable {K : PySem.W.Frag} {F F' G G' H H' : Hp} {σ σ' : L2.St} {ρ ρ' : Ro}
theorem BxOk.to (B : BxOk K F G H σ ρ) (hs : Same F F') (hp : ∀ p, InBox ρ p → F' p = none ∧ G' p = none ∧ H' p = H p) (hb : ∀ (i : Nat) (s : Sh), ρ'[i]? = some (some (.box s)) → ρ[i]? = some (some (.box s)) ∧ σ'[i]? = σ[i]?)
    (ho : ∀ (j : Nat) (a : Addr) (xs : List D), ρ'[j]? = some (some (.own a xs)) → (∃ (k : Nat) (ys : List D), ρ[k]? = some (some (.own a ys))) ∨ ¬ InBox ρ a) : BxOk K F' G' H' σ' ρ' := by
  refine ⟨fun i s q => ?_, fun i j s t p q1 q2 m1 m2 => B.bb i j s t p (hb i s q1).1 (hb j t q2).1 m1 m2, fun j a xs q m => ?_⟩
  · obtain ⟨h1, h2⟩ := hb i s q
    obtain ⟨g1, g2, g3⟩ := B.box i s h1
    exact ⟨h2.trans g1, fun p m => ⟨(hp p ⟨i, s, h1, m⟩).1, (hp p ⟨i, s, h1, m⟩).2.1⟩, g3.mono hs fun p m => (hp p ⟨i, s, h1, m⟩).2.2⟩
  · have n : ¬ InBox ρ a := (ho j a xs q).elim (fun ⟨k, ys, e⟩ => B.bo k a ys e) id
    obtain ⟨i, s, h1, h2⟩ := m
    exact n ⟨i, s, (hb i s h1).1, h2⟩
theorem BxOk.free (B : BxOk K F G H σ ρ) {p : Addr} (m : InBox ρ p) : F p = none ∧ G p = none ∧ ∃ o, H p = some o := by
  obtain ⟨i, s, h1, h2⟩ := m
  obtain ⟨g1, g2, g3⟩ := B.box i s h1
  exact ⟨(g2 p h2).1, (g2 p h2).2, g3.live h2⟩
theorem BxOk.apart (B : BxOk K F G H σ ρ) {p a : Addr} {j : Nat} {xs : List D} (m : InBox ρ p) (e : ρ[j]? = some (some (.own a xs))) : p ≠ a := fun z => by
  subst z
  exact B.bo j _ xs e m
theorem BxOk.heap (B : BxOk K F G H σ ρ) (hs : Same F F') (hp : ∀ p, InBox ρ p → F' p = none ∧ G' p = none ∧ H' p = H p) : BxOk K F' G' H' σ ρ := B.to hs hp (fun i s q => ⟨q, rfl⟩) fun j a xs q => .inl ⟨j, xs, q⟩
theorem BxOk.nil (h : ∀ (i : Nat) (s : Sh), ρ[i]? ≠ some (some (.box s))) : BxOk K F G H σ ρ := ⟨fun i s q => absurd q (h i s), fun i j s t p q1 _ _ _ => absurd q1 (h i s), fun j a xs q m => by
  obtain ⟨i, s, h1, _⟩ := m
  exact h i s h1⟩
theorem BxOk.fresh (B : BxOk K F G H σ ρ) {a : Addr} (h : H a = none) : ¬ InBox ρ a := fun m => by
  obtain ⟨_, _, o, e⟩ := B.free m
  rw [h] at e; cases e
theorem BxOk.notG (B : BxOk K F G H σ ρ) {a : Addr} {o : HO} (h : G a = some o) : ¬ InBox ρ a := fun m => by
  have := (B.free m).2.1
  rw [h] at this; cases this
theorem BxOk.unguard (B : BxOk K F G' H σ ρ) (h : Same G G') : BxOk K F G H σ ρ := B.heap (.refl _) fun p m => ⟨(B.free m).1, h.free (B.free m).2.1, rfl⟩
theorem BxOk.guard (B : BxOk K F G H σ ρ) {p : Addr} {o : HO} (h : ¬ InBox ρ p) : BxOk K F (upd G p o) H σ ρ := B.heap (.refl _) fun q m => ⟨(B.free m).1, by rw [upd_ne (a := p) (b := q) fun z => h (by rw [← z]; exact m)]; exact (B.free m).2.1, rfl⟩
theorem BxOk.upd' (B : BxOk K F G H σ ρ) {p : Addr} {o : HO} (h : ¬ InBox ρ p) : BxOk K F G (upd H p o) σ ρ := B.heap (.refl _) fun q m => ⟨(B.free m).1, (B.free m).2.1, upd_ne fun z => h (by rw [← z]; exact m)⟩
theorem BxOk.new (B : BxOk K F G H σ ρ) {p : Addr} {o : HO} (hF : F p = none) (h : H p = none) : BxOk K (upd F p o) G (upd H p o) σ ρ := B.heap (fun b x e => by rw [upd_ne (ne_of_none e hF)]; exact e) fun q m => by
  obtain ⟨f, g, o, e⟩ := B.free m
  have n : q ≠ p := ne_of_none e h
  exact ⟨by rw [upd_ne n]; exact f, g, by rw [upd_ne n]⟩
theorem BxOk.more (B : BxOk K F G H σ ρ) {p : Addr} {o : HO} (h : H p = none) : BxOk K F G (upd H p o) σ ρ := B.heap (.refl _) fun q m => by
  obtain ⟨f, g, o, e⟩ := B.free m
  have n : q ≠ p := ne_of_none e h
  exact ⟨f, g, by rw [upd_ne n]⟩
theorem set_box {i j : Nat} {c : Option Cell} {s : Sh} (hc : ∀ t, c ≠ some (.box t)) (q : (ρ.set i c)[j]? = some (some (.box s))) : ρ[j]? = some (some (.box s)) ∧ i ≠ j := by
  by_cases hj : i = j
  · subst hj
    by_cases hi : i < ρ.length
    · rw [List.getElem?_set_self hi] at q; exact absurd (Option.some.inj q) (hc s)
    · rw [List.getElem?_eq_none (by simpa using hi)] at q; cases q
  · rw [List.getElem?_set_ne hj] at q; exact ⟨q, hj⟩
theorem set_inbox {i : Nat} {c : Option Cell} {p : Addr} (hc : ∀ t, c ≠ some (.box t)) : InBox (ρ.set i c) p → InBox ρ p := fun ⟨j, s, e, m⟩ => ⟨j, s, (set_box hc e).1, m⟩
theorem set_own {i j : Nat} {c : Option Cell} {a : Addr} {xs : List D} (q : (ρ.set i c)[j]? = some (some (.own a xs))) : c = some (.own a xs) ∨ ρ[j]? = some (some (.own a xs)) := by
  by_cases hj : i = j
  · subst hj
    by_cases hi : i < ρ.length
    · rw [List.getElem?_set_self hi] at q; exact .inl (Option.some.inj q)
    · rw [List.getElem?_eq_none (by simpa using hi)] at q; cases q
  · rw [List.getElem?_set_ne hj] at q; exact .inr q
theorem BxOk.set (B : BxOk K F G H σ ρ) (i : Nat) (v : Option V) {c : Option Cell} (hc : ∀ t, c ≠ some (.box t)) (ho : ∀ a xs, c = some (.own a xs) → (∃ (k : Nat) (ys : List D), ρ[k]? = some (some (.own a ys))) ∨ ¬ InBox ρ a) : BxOk K F G H (σ.set i v) (ρ.set i c) :=
  B.to (.refl _) (fun p m => ⟨(B.free m).1, (B.free m).2.1, rfl⟩) (fun j s q => ⟨(set_box hc q).1, List.getElem?_set_ne (set_box hc q).2⟩) fun j a xs q => (set_own q).elim (ho a xs) fun q => .inl ⟨j, xs, q⟩
theorem BxOk.set' (B : BxOk K F G H σ ρ) (i : Nat) {c : Option Cell} (hc : ∀ t, c ≠ some (.box t)) (ho : ∀ a xs, c = some (.own a xs) → (∃ (k : Nat) (ys : List D), ρ[k]? = some (some (.own a ys))) ∨ ¬ InBox ρ a) : BxOk K F G H σ (ρ.set i c) :=
  B.to (.refl _) (fun p m => ⟨(B.free m).1, (B.free m).2.1, rfl⟩) (fun j s q => ⟨(set_box hc q).1, rfl⟩) fun j a xs q => (set_own q).elim (ho a xs) fun q => .inl ⟨j, xs, q⟩
end
structure Up (G F F' : Hp) : Prop where
  ex : Same F F'
  out : ∀ a o, F' a = some o → F a = some o ∨ G a = none
theorem Up.refl (G F : Hp) : Up G F F := ⟨.refl F, fun _ _ h => .inl h⟩
theorem Up.trans {G F F1 F2 : Hp} (a : Up G F F1) (b : Up G F1 F2) : Up G F F2 := ⟨a.ex.trans b.ex, fun x o h => by
  rcases b.out x o h with h | h
  · exact a.out x o h
  · exact .inr h⟩
theorem Up.isNone {G F F' : Hp} (u : Up G F F') {a : Addr} {o : HO} (hF : F a = none) (hG : G a = some o) : F' a = none := by
  cases q : F' a with
  | none => rfl
  | some x =>
    rcases u.out a x q with h | h
    · rw [hF] at h; cases h
    · rw [hG] at h; cases h
theorem Up.less {G G' F F' : Hp} (u : Up G F F') (h : Same G' G) : Up G' F F' := ⟨u.ex, fun a o e => by
  rcases u.out a o e with q | q
  · exact .inl q
  · exact .inr (h.free q)⟩
theorem FsR.mut {K : PySem.W.Frag} {F H : Hp} : ∀ {vs : List (Str × V)} {fs : List (Str × Fd)}, FsR K F H vs fs → ∀ p ∈ fsFoot fs, ∃ o, H p = some o ∧ Mut o
  | [], [], _, p, m => by cases m
  | (x, v) :: vs, (y, .val d) :: fs, h, p, m => FsR.mut h.2.2 p m
  | (x, v) :: vs, (y, .own a xs) :: fs, h, p, m => by
    have m : p ∈ a :: fsFoot fs := m
    rcases List.mem_cons.mp m with rfl | m
    · obtain ⟨h1, ws, h2, h3⟩ := h.2.1
      exact ⟨_, h2, trivial⟩
    · exact FsR.mut h.2.2 p m
  | [], _ :: _, h, _, _ => h.elim
  | _ :: _, [], h, _, _ => h.elim
theorem Sh.At.mut {K : PySem.W.Frag} {F H : Hp} {s : Sh} (h : s.At K F H) {p : Addr} (m : p ∈ s.foot) : ∃ o, H p = some o ∧ Mut o := by
  cases s with
  | dic a ps =>
    obtain ⟨kvs, h1, h2⟩ := h
    rw [List.mem_singleton.mp m]; exact ⟨_, h1, trivial⟩
  | ins a C dx fs =>
    obtain ⟨n, vs, h1, h2, h3⟩ := h
    have m : p ∈ a :: dx :: fsFoot fs := m
    rcases List.mem_cons.mp m with rfl | m
    · exact ⟨_, h1, trivial⟩
    rcases List.mem_cons.mp m with rfl | m
    · exact ⟨_, h2, trivial⟩
    · exact h3.mut p m
  | dicL a o kvs ps => rw [List.mem_singleton.mp m]; exact ⟨_, h.1, trivial⟩
  | gen g => exact g.muts h p m
theorem BxOk.mut {K : PySem.W.Frag} {F G H : Hp} {σ : L2.St} {ρ : Ro} (B : BxOk K F G H σ ρ) {p : Addr} (m : InBox ρ p) : ∃ o, H p = some o ∧ Mut o := by
  obtain ⟨i, s, h1, h2⟩ := m
  exact (B.box i s h1).2.2.mut h2
class TJ where
  J : Hp → Hp → Hp → Prop
  step : ∀ {G F F' H H' : Hp}, J G F H → (∀ b o, H b = some o → ¬ Mut o → H' b = some o) → (∀ b o, F' b = some o → F b = some o ∨ H b = none ∨ ∃ x, H b = some x ∧ Mut x) → J G F' H'
  frame : ∀ {G G' F H : Hp}, J G F H → (∀ b o, G' b = some o → G b = some o ∨ ∃ x, H b = some x ∧ Mut x) → J G' F H
@[reducible] def tj0 : TJ := ⟨fun _ _ _ => True, fun _ _ _ => trivial, fun _ _ => trivial⟩
@[reducible] instance (priority := low) tjNone : TJ := tj0
structure SameJ [TJ] (G F H : Hp) : Prop where
  same : Same G H
  tj : TJ.J G F H
section
variable [TJ] {G G' F F' H H' : Hp}
instance : CoeFun (SameJ G F H) (fun _ => ∀ a x, G a = some x → H a = some x) := ⟨fun h => h.same⟩
instance : CoeOut (SameJ G F H) (Same G H) := ⟨fun h => h.same⟩
theorem SameJ.step (h : SameJ G F H) (e : Same H H') (f : ∀ b o, F' b = some o → F b = some o ∨ H b = none ∨ ∃ vs, H b = some (.lst vs)) : SameJ G F' H' := ⟨h.same.trans e, TJ.step h.tj (fun b o q _ => e b o q) fun b o q => (f b o q).elim .inl fun z => z.elim (fun z => .inr (.inl z)) fun ⟨vs, z⟩ => .inr (.inr ⟨_, z, trivial⟩)⟩
theorem SameJ.trans (h : SameJ G F H) (e : Same H H') : SameJ G F H' := h.step e fun _ _ q => .inl q
theorem SameJ.up (h : SameJ G F H) (e : Same H H') (u : ∀ b o, F' b = some o → F b = some o ∨ H b = none) : SameJ G F' H' := h.step e fun b o q => (u b o q).elim .inl fun z => .inr (.inl z)
theorem SameJ.new (h : SameJ G F H) {p : Addr} {o : HO} (n : H p = none) : SameJ G (upd F p o) (upd H p o) := h.up (fun b x q => by rw [upd_ne (ne_of_none q n)]; exact q) fun b x q => by
  by_cases m : b = p
  · subst m; exact .inr n
  · rw [upd_ne m] at q; exact .inl q
theorem SameJ.froz (h : SameJ G F H) (f : ∀ b o, F' b = some o → F b = some o ∨ ∃ vs, H b = some (.lst vs)) : SameJ G F' H := h.step (.refl _) fun b o q => (f b o q).elim .inl fun z => .inr (.inr z)
theorem SameJ.free (h : SameJ G F H) {a : Addr} (n : H a = none) : G a = none := h.same.free n
theorem SameJ.less (h : SameJ G F H) (e : Same G' G) : SameJ G' F H := ⟨e.trans h.same, TJ.frame h.tj fun b o q => .inl (e b o q)⟩
theorem SameJ.mut (h : SameJ G F H) {a : Addr} {o u : HO} (n : G a = none) (e : H a = some o) (mo : Mut o := by trivial) : SameJ G F (upd H a u) :=
  ⟨fun b x q => by
    have m : b ≠ a := fun z => by subst z; rw [n] at q; cases q
    rw [upd_ne m]; exact h.same b x q, TJ.step h.tj (fun b o q ne => by
    have m : b ≠ a := fun z => by subst z; rw [e] at q; exact ne ((Option.some.inj q) ▸ mo)
    rw [upd_ne m]; exact q) fun _ _ q => .inl q⟩
theorem SameJ.guard (h : SameJ G F H) {a : Addr} {o : HO} (e : H a = some o) (mo : Mut o := by trivial) : SameJ (upd G a o) F H :=
  ⟨fun b x q => by
    by_cases m : b = a
    · subst m; rw [upd_same] at q; cases q; exact e
    · rw [upd_ne m] at q; exact h.same b x q, TJ.frame h.tj fun b u q => by
    by_cases m : b = a
    · subst m; exact .inr ⟨o, e, mo⟩
    · rw [upd_ne m] at q; exact .inl q⟩
end
structure Sim [TJ] (K : PySem.W.Frag) (G F H : Hp) (σ : L2.St) (ρ : Ro) : Prop where
  hF : Same F H
  hG : SameJ G F H
  len : σ.length = ρ.length
  val : ∀ (i : Nat) (d : D), ρ[i]? = some (some (.val d)) → ∃ v, σ[i]? = some (some v) ∧ Rep K F v d
  own : ∀ (i : Nat) (a : Addr) (xs : List D), ρ[i]? = some (some (.own a xs)) → σ[i]? = some (some (.ref a)) ∧ F a = none ∧ G a = none ∧ ∃ vs, H a = some (.lst vs) ∧ Reps K F vs xs
  ne : ∀ (i j : Nat) (a : Addr) (xs ys : List D), ρ[i]? = some (some (.own a xs)) → ρ[j]? = some (some (.own a ys)) → i = j
  bx : BxOk K F G H σ ρ
structure SimR (K : PySem.W.Frag) (G F H : Hp) (σ : L2.St) (ρ : Ro) : Prop where
  hF : Same F H
  hG : Same G H
  len : σ.length = ρ.length
  val : ∀ (i : Nat) (d : D), ρ[i]? = some (some (.val d)) → ∃ v, σ[i]? = some (some v) ∧ Rep K F v d
  own : ∀ (i : Nat) (a : Addr) (xs : List D), ρ[i]? = some (some (.own a xs)) → σ[i]? = some (some (.ref a)) ∧ F a = none ∧ G a = none ∧ ∃ vs, H a = some (.lst vs) ∧ Reps K F vs xs
  ne : ∀ (i j : Nat) (a : Addr) (xs ys : List D), ρ[i]? = some (some (.own a xs)) → ρ[j]? = some (some (.own a ys)) → i = j
  bx : BxOk K F G H σ ρ
theorem Sim.raw [TJ] {K : PySem.W.Frag} {G F H : Hp} {σ : L2.St} {ρ : Ro} (S : Sim K G F H σ ρ) : SimR K G F H σ ρ := ⟨S.hF, S.hG.same, S.len, S.val, S.own, S.ne, S.bx⟩
theorem SimR.sim {K : PySem.W.Frag} {G F H : Hp} {σ : L2.St} {ρ : Ro} (S : SimR K G F H σ ρ) : Sim K G F H σ ρ := ⟨S.hF, ⟨S.hG, trivial⟩, S.len, S.val, S.own, S.ne, S.bx⟩
theorem SameJ.rfl' (F H : Hp) : SameJ H F H := ⟨.refl H, trivial⟩
theorem SameJ.of {G F H : Hp} (h : Same G H) : SameJ G F H := ⟨h, trivial⟩
section
variable [TJ] {K : PySem.W.Frag} {G F H : Hp} {σ : L2.St} {ρ : Ro}
theorem Sim.freshF (S : Sim K G F H σ ρ) {p : Addr} (h : H p = none) : F p = none := S.hF.free h
theorem Sim.freshG (S : Sim K G F H σ ρ) {p : Addr} (h : H p = none) : G p = none := S.hG.free h
theorem same_new {H : Hp} {p : Addr} {o : HO} (h : H p = none) : Same H (upd H p o) := fun b x e => by
  rw [upd_ne (ne_of_none e h)]
  exact e
theorem Up.new {p : Addr} {o : HO} (hF : F p = none) (hG : G p = none) : Up G F (upd F p o) := ⟨same_new hF, fun a x e => by
  by_cases q : a = p
  · subst q; exact .inr hG
  · rw [upd_ne q] at e; exact .inl e⟩
theorem Sim.new (S : Sim K G F H σ ρ) {p : Addr} {o : HO} (h : H p = none) : Sim K G (upd F p o) (upd H p o) σ ρ where
  hF := fun a x e => by
    by_cases q : a = p
    · subst q; rw [upd_same] at e ⊢; exact e
    · rw [upd_ne q] at e ⊢; exact S.hF a x e
  hG := S.hG.new h
  len := S.len
  val := fun i d e => by
    obtain ⟨v, h1, h2⟩ := S.val i d e
    exact ⟨v, h1, h2.mono (same_new (S.freshF h))⟩
  own := fun i a xs e => by
    obtain ⟨h1, h2, h3, vs, h4, h5⟩ := S.own i a xs e
    have q : a ≠ p := ne_of_none h4 h
    exact ⟨h1, by rw [upd_ne q]; exact h2, h3, vs, by rw [upd_ne q]; exact h4, h5.mono (same_new (S.freshF h))⟩
  ne := S.ne
  bx := S.bx.new (S.freshF h) h
theorem Sim.upNew (S : Sim K G F H σ ρ) {p : Addr} {o : HO} (h : H p = none) : Up G F (upd F p o) := Up.new (S.freshF h) (S.freshG h)
theorem Sim.more (S : Sim K G F H σ ρ) {p : Addr} {o : HO} (h : H p = none) : Sim K G F (upd H p o) σ ρ where
  hF := S.hF.trans (same_new h)
  hG := S.hG.trans (same_new h)
  len := S.len
  val := S.val
  own := fun i a xs e => by
    obtain ⟨h1, h2, h3, vs, h4, h5⟩ := S.own i a xs e
    exact ⟨h1, h2, h3, vs, by rw [upd_ne (ne_of_none h4 h)]; exact h4, h5⟩
  ne := S.ne
  bx := S.bx.more h
theorem Sim.mut (S : Sim K G F H σ ρ) {i : Nat} {a : Addr} {xs ys : List D} {vs : List V} (e : ρ[i]? = some (some (.own a xs))) (r : Reps K F vs ys) :
    Sim K G F (upd H a (.lst vs)) σ (ρ.set i (some (.own a ys))) := by
  obtain ⟨h1, h2, h3, ws, h4, h5⟩ := S.own i a xs e
  have hi : i < ρ.length := by
    rcases Nat.lt_or_ge i ρ.length with h | h
    · exact h
    · rw [List.getElem?_eq_none h] at e; cases e
  refine ⟨fun b x q => ?_, S.hG.mut h3 h4, by simpa using S.len, fun j d q => ?_, fun j b zs q => ?_, fun j k b zs ws q1 q2 => ?_, S.bx.to (.refl _) (fun q m => ⟨(S.bx.free m).1, (S.bx.free m).2.1, upd_ne (S.bx.apart m e)⟩) (fun j s q => ⟨(set_box (by simp) q).1, rfl⟩) fun j b zs q => (set_own q).elim (fun z => by cases z; exact .inl ⟨i, xs, e⟩) fun q => .inl ⟨j, zs, q⟩⟩
  · have n : b ≠ a := fun z => by subst z; rw [h2] at q; cases q
    rw [upd_ne n]; exact S.hF b x q
  · by_cases hj : i = j
    · subst hj; rw [List.getElem?_set_self hi] at q; cases q
    · rw [List.getElem?_set_ne hj] at q; exact S.val j d q
  · by_cases hj : i = j
    · subst hj
      rw [List.getElem?_set_self hi] at q
      cases q
      exact ⟨h1, h2, h3, vs, upd_same, r⟩
    · rw [List.getElem?_set_ne hj] at q
      obtain ⟨g1, g2, g3, us, g4, g5⟩ := S.own j b zs q
      have n : b ≠ a := fun z => by subst z; exact hj (S.ne _ _ _ _ _ e q)
      exact ⟨g1, g2, g3, us, by rw [upd_ne n]; exact g4, g5⟩
  · by_cases hj : i = j
    · subst hj
      by_cases hk : i = k
      · exact hk
      · rw [List.getElem?_set_self hi] at q1
        rw [List.getElem?_set_ne hk] at q2
        cases q1
        exact absurd (S.ne _ _ _ _ _ e q2) hk
    · by_cases hk : i = k
      · subst hk
        rw [List.getElem?_set_self hi] at q2
        rw [List.getElem?_set_ne hj] at q1
        cases q2
        exact absurd (S.ne _ _ _ _ _ e q1) hj
      · rw [List.getElem?_set_ne hj] at q1
        rw [List.getElem?_set_ne hk] at q2
        exact S.ne _ _ _ _ _ q1 q2
theorem Sim.setVal (S : Sim K G F H σ ρ) (i : Nat) {v : V} {d : D} (r : Rep K F v d) : Sim K G F H (σ.set i (some v)) (ρ.set i (some (.val d))) := by
  refine ⟨S.hF, S.hG, by simpa using S.len, fun j d' q => ?_, fun j b zs q => ?_, fun j k b zs ws q1 q2 => ?_, S.bx.set i _ (by simp) (by simp)⟩
  · by_cases hj : i = j
    · subst hj
      by_cases hi : i < ρ.length
      · rw [List.getElem?_set_self hi] at q
        cases q
        exact ⟨v, List.getElem?_set_self (by rw [S.len]; exact hi), r⟩
      · rw [List.getElem?_eq_none (by simpa using hi)] at q; cases q
    · rw [List.getElem?_set_ne hj] at q ⊢; exact S.val j d' q
  · by_cases hj : i = j
    · subst hj
      by_cases hi : i < ρ.length
      · rw [List.getElem?_set_self hi] at q; cases q
      · rw [List.getElem?_eq_none (by simpa using hi)] at q; cases q
    · rw [List.getElem?_set_ne hj] at q ⊢; exact S.own j b zs q
  · have n : ∀ (j : Nat) (zs : List D), (ρ.set i (some (.val d)))[j]? = some (some (.own b zs)) → ρ[j]? = some (some (.own b zs)) := fun j zs q => by
      by_cases hj : i = j
      · subst hj
        by_cases hi : i < ρ.length
        · rw [List.getElem?_set_self hi] at q; cases q
        · rw [List.getElem?_eq_none (by simpa using hi)] at q; cases q
      · rw [List.getElem?_set_ne hj] at q; exact q
    exact S.ne _ _ _ _ _ (n _ _ q1) (n _ _ q2)
def NotOwn (ρ : Ro) (a : Addr) : Prop := (∀ (i : Nat) (xs : List D), ρ[i]? ≠ some (some (.own a xs))) ∧ ¬ InBox ρ a
theorem Sim.notOwn (S : Sim K G F H σ ρ) {a : Addr} (h : H a = none) : NotOwn ρ a := ⟨fun i xs q => (by
  obtain ⟨_, _, _, vs, h4, _⟩ := S.own i a xs q
  rw [h] at h4
  cases h4), S.bx.fresh h⟩
theorem Sim.setOwn (S : Sim K G F H σ ρ) (i : Nat) {a : Addr} {vs : List V} {xs : List D} (hH : H a = some (.lst vs)) (hF : F a = none) (hG : G a = none) (hn : NotOwn ρ a) (r : Reps K F vs xs) :
    Sim K G F H (σ.set i (some (.ref a))) (ρ.set i (some (.own a xs))) := by
  have far : ∀ (j : Nat) (c : Cell), i ≠ j → (ρ.set i (some (.own a xs)))[j]? = some (some c) → ρ[j]? = some (some c) := fun j c hj q => by
    rw [List.getElem?_set_ne hj] at q; exact q
  have near : ∀ (c : Cell), (ρ.set i (some (.own a xs)))[i]? = some (some c) → c = .own a xs ∧ i < ρ.length := fun c q => by
    by_cases hi : i < ρ.length
    · rw [List.getElem?_set_self hi] at q; cases q; exact ⟨rfl, hi⟩
    · rw [List.getElem?_eq_none (by simpa using hi)] at q; cases q
  refine ⟨S.hF, S.hG, by simpa using S.len, fun j d' q => ?_, fun j b zs q => ?_, fun j k b zs ws q1 q2 => ?_, S.bx.set i _ (by simp) fun b zs z => by cases z; exact .inr hn.2⟩
  · by_cases hj : i = j
    · subst hj; exact nomatch (near _ q).1
    · obtain ⟨v, h1, h2⟩ := S.val j d' (far _ _ hj q)
      exact ⟨v, by rw [List.getElem?_set_ne hj]; exact h1, h2⟩
  · by_cases hj : i = j
    · subst hj
      obtain ⟨e, hi⟩ := near _ q
      cases e
      exact ⟨List.getElem?_set_self (by rw [S.len]; exact hi), hF, hG, vs, hH, r⟩
    · obtain ⟨h1, h2⟩ := S.own j b zs (far _ _ hj q)
      exact ⟨by rw [List.getElem?_set_ne hj]; exact h1, h2⟩
  · by_cases hj : i = j
    · subst hj
      by_cases hk : i = k
      · exact hk
      · have e := (near _ q1).1
        cases e
        exact absurd (far _ _ hk q2) (hn.1 _ _)
    · by_cases hk : i = k
      · subst hk
        have e := (near _ q2).1
        cases e
        exact absurd (far _ _ hj q1) (hn.1 _ _)
      · exact S.ne _ _ _ _ _ (far _ _ hj q1) (far _ _ hk q2)
theorem Sim.forget (S : Sim K G F H σ ρ) (i : Nat) (x : Option V) : Sim K G F H (σ.set i x) (ρ.set i none) := by
  have far : ∀ (j : Nat) (c : Cell), (ρ.set i none)[j]? = some (some c) → ρ[j]? = some (some c) ∧ i ≠ j := fun j c q => by
    by_cases hj : i = j
    · subst hj
      by_cases hi : i < ρ.length
      · rw [List.getElem?_set_self hi] at q; cases q
      · rw [List.getElem?_eq_none (by simpa using hi)] at q; cases q
    · rw [List.getElem?_set_ne hj] at q; exact ⟨q, hj⟩
  refine ⟨S.hF, S.hG, by simpa using S.len, fun j d' q => ?_, fun j b zs q => ?_, fun j k b zs ws q1 q2 => S.ne _ _ _ _ _ (far _ _ q1).1 (far _ _ q2).1, S.bx.set i x (by simp) (by simp)⟩
  · obtain ⟨q1, hj⟩ := far _ _ q
    rw [List.getElem?_set_ne hj]
    exact S.val j d' q1
  · obtain ⟨q1, hj⟩ := far _ _ q
    rw [List.getElem?_set_ne hj]
    exact S.own j b zs q1
theorem Sim.forget' (S : Sim K G F H σ ρ) (i : Nat) : Sim K G F H σ (ρ.set i none) := by
  have far : ∀ (j : Nat) (c : Cell), (ρ.set i none)[j]? = some (some c) → ρ[j]? = some (some c) := fun j c q => by
    by_cases hj : i = j
    · subst hj
      by_cases hi : i < ρ.length
      · rw [List.getElem?_set_self hi] at q; cases q
      · rw [List.getElem?_eq_none (by simpa using hi)] at q; cases q
    · rw [List.getElem?_set_ne hj] at q; exact q
  exact ⟨S.hF, S.hG, by simpa using S.len, fun j d' q => S.val j d' (far _ _ q), fun j b zs q => S.own j b zs (far _ _ q), fun j k b zs ws q1 q2 => S.ne _ _ _ _ _ (far _ _ q1) (far _ _ q2), S.bx.set' i (by simp) (by simp)⟩
theorem Sim.freeze (S : Sim K G F H σ ρ) {i : Nat} {a : Addr} {xs : List D} (e : ρ[i]? = some (some (.own a xs))) :
    ∃ F', Up G F F' ∧ Rep K F' (.ref a) (.lst xs) ∧ Sim K G F' H σ (ρ.set i (some (.val (.lst xs)))) := by
  obtain ⟨h1, h2, h3, vs, h4, h5⟩ := S.own i a xs e
  have hi : i < ρ.length := by
    rcases Nat.lt_or_ge i ρ.length with h | h
    · exact h
    · rw [List.getElem?_eq_none h] at e; cases e
  have sm : Same F (upd F a (.lst vs)) := same_new h2
  have rp : Rep K (upd F a (.lst vs)) (.ref a) (.lst xs) := .lst upd_same (h5.mono sm)
  refine ⟨upd F a (.lst vs), Up.new h2 h3, rp, fun b x q => ?_, S.hG.froz fun b x q => ?_, by simpa using S.len, fun j d q => ?_, fun j b zs q => ?_, fun j k b zs ws q1 q2 => ?_, S.bx.to sm (fun q m => ⟨by rw [upd_ne (S.bx.apart m e)]; exact (S.bx.free m).1, (S.bx.free m).2.1, rfl⟩) (fun j s q => ⟨(set_box (by simp) q).1, rfl⟩) fun j b zs q => (set_own q).elim (fun z => by cases z) fun q => .inl ⟨j, zs, q⟩⟩
  · by_cases n : b = a
    · subst n; rw [upd_same] at q; cases q; exact h4
    · rw [upd_ne n] at q; exact S.hF b x q
  · by_cases n : b = a
    · subst n; exact .inr ⟨vs, h4⟩
    · rw [upd_ne n] at q; exact .inl q
  · by_cases hj : i = j
    · subst hj
      rw [List.getElem?_set_self hi] at q
      cases q
      exact ⟨_, h1, rp⟩
    · rw [List.getElem?_set_ne hj] at q
      obtain ⟨v, g1, g2⟩ := S.val j d q
      exact ⟨v, g1, g2.mono sm⟩
  · by_cases hj : i = j
    · subst hj
      rw [List.getElem?_set_self hi] at q; cases q
    · rw [List.getElem?_set_ne hj] at q
      obtain ⟨g1, g2, g3, us, g4, g5⟩ := S.own j b zs q
      have n : b ≠ a := fun z => by subst z; exact hj (S.ne _ _ _ _ _ e q)
      exact ⟨g1, by rw [upd_ne n]; exact g2, g3, us, g4, g5.mono sm⟩
  · have n : ∀ (j : Nat) (zs : List D), (ρ.set i (some (.val (.lst xs))))[j]? = some (some (.own b zs)) → ρ[j]? = some (some (.own b zs)) := fun j zs q => by
      by_cases hj : i = j
      · subst hj; rw [List.getElem?_set_self hi] at q; cases q
      · rw [List.getElem?_set_ne hj] at q; exact q
    exact S.ne _ _ _ _ _ (n _ _ q1) (n _ _ q2)
end
end Pl
namespace Pl
open PySem PySem.Spec PyProof.Rows L2
variable [TJ]
abbrev TEp := Ro → (D → Ro → Prop) → Prop
abbrev TCp := Ro → (Cell → Ro → Prop) → Prop
abbrev TTp := Ro → (Bool → Ro → Prop) → Prop
abbrev TAp := Ro → (List D → Ro → Prop) → Prop
def SndE (K : PySem.W.Frag) (t : TE) (T : TEp) : Prop := ∀ (G F H : Hp) (σ : L2.St) (ρ : Ro) (Q : D → Ro → Prop) (R : VK), Sim K G F H σ ρ → T ρ Q →
  (∀ v d F' H' ρ', Up G F F' → Sim K G F' H' σ ρ' → Rep K F' v d → Q d ρ' → R v H') → t σ H R
def SndT (K : PySem.W.Frag) (t : TT) (T : TTp) : Prop := ∀ (G F H : Hp) (σ : L2.St) (ρ : Ro) (Q : Bool → Ro → Prop) (R : Bool → Hp → Prop), Sim K G F H σ ρ → T ρ Q →
  (∀ b F' H' ρ', Up G F F' → Sim K G F' H' σ ρ' → Q b ρ' → R b H') → t σ H R
def SndA (K : PySem.W.Frag) (t : TA) (T : TAp) : Prop := ∀ (G F H : Hp) (σ : L2.St) (ρ : Ro) (Q : List D → Ro → Prop) (R : List V → Hp → Prop), Sim K G F H σ ρ → T ρ Q →
  (∀ vs ds F' H' ρ', Up G F F' → Sim K G F' H' σ ρ' → Reps K F' vs ds → Q ds ρ' → R vs H') → t σ H R
def SndC (K : PySem.W.Frag) (t : TE) (T : TCp) : Prop := ∀ (G F H : Hp) (σ : L2.St) (ρ : Ro) (Q : Cell → Ro → Prop) (R : VK), Sim K G F H σ ρ → T ρ Q →
  (∀ v c F' H' ρ', Up G F F' → Sim K G F' H' (σ ++ [some v]) (ρ' ++ [some c]) → Q c ρ' → R v H') → t σ H R
structure PPE (X : Cx) (e : Expr) (t : TE) (T : TEp) : Prop where
  pe : PE X e t
  snd : SndE X.K t T
structure PPC (X : Cx) (e : Expr) (t : TE) (T : TCp) : Prop where
  pe : PE X e t
  snd : SndC X.K t T
structure PPT (X : Cx) (e : Expr) (t : TT) (T : TTp) : Prop where
  pt : PT X e t
  snd : SndT X.K t T
structure PPW (X : Cx) (e : Expr) (t : TT) (T : TTp) : Prop where
  pw : PW X e t
  snd : SndT X.K t T
structure PPA (X : Cx) (es : List Expr) (t : TA) (T : TAp) : Prop where
  pa : PA X es t
  snd : SndA X.K t T
inductive Res (K : PySem.W.Frag) (F H : Hp) (v : V) (d : D) : Hp → Hp → Prop
  | old : Rep K F v d → Res K F H v d F H
  | new {p : Addr} {o : HO} : H p = none → Rep K (upd F p o) v d → Res K F H v d (upd F p o) (upd H p o)
section
variable {K : PySem.W.Frag} {G F H F' H' : Hp} {σ : L2.St} {ρ : Ro} {v : V} {d : D}
theorem Sim.res (S : Sim K G F H σ ρ) (r : Res K F H v d F' H') : Up G F F' ∧ Sim K G F' H' σ ρ ∧ Rep K F' v d := by
  cases r with
  | old r => exact ⟨.refl _ _, S, r⟩
  | new h r => exact ⟨S.upNew h, S.new h, r⟩
theorem cut_last {ρ : Ro} {c : Cell} {i : Nat} {x : Cell} (h : (ρ ++ [some c])[i]? = some (some x)) : (ρ[i]? = some (some x) ∧ i < ρ.length) ∨ (i = ρ.length ∧ x = c) := by
  rcases Nat.lt_or_ge i ρ.length with q | q
  · rw [List.getElem?_append_left q] at h; exact .inl ⟨h, q⟩
  · rw [List.getElem?_append_right q] at h
    rcases Nat.eq_zero_or_pos (i - ρ.length) with z | z
    · rw [z] at h; simp at h; exact .inr ⟨by omega, h.symm⟩
    · rw [List.getElem?_eq_none (by simp; omega)] at h; cases h
theorem at_lt {ρ : Ro} {i : Nat} {c : Cell} (h : ρ[i]? = some (some c)) : i < ρ.length := by
  rcases Nat.lt_or_ge i ρ.length with q | q
  · exact q
  · rw [List.getElem?_eq_none q] at h; cases h
theorem at_more {ρ : Ro} {i : Nat} {x c : Cell} (h : ρ[i]? = some (some x)) : (ρ ++ [some c])[i]? = some (some x) := by rw [List.getElem?_append_left (at_lt h)]; exact h
theorem BxOk.push {G F H : Hp} {σ : L2.St} {ρ : Ro} {c : Cell} (B : BxOk K F G H σ ρ) (hl : σ.length = ρ.length) (v : Option V) (hc : ∀ t, c ≠ .box t) (ho : ∀ a xs, c = .own a xs → ¬ InBox ρ a) : BxOk K F G H (σ ++ [v]) (ρ ++ [some c]) :=
  B.to (.refl _) (fun p m => ⟨(B.free m).1, (B.free m).2.1, rfl⟩) (fun i s h => by
    rcases cut_last h with ⟨h, q⟩ | ⟨_, e⟩
    · exact ⟨h, by rw [List.getElem?_append_left (by rw [hl]; exact q)]⟩
    · exact absurd e.symm (hc s)) fun j a xs h => by
    rcases cut_last h with ⟨h, q⟩ | ⟨_, e⟩
    · exact .inl ⟨j, xs, h⟩
    · exact .inr (ho a xs e.symm)
theorem BxOk.drop {G F H : Hp} {σ : L2.St} {ρ : Ro} {c : Cell} {v : Option V} (B : BxOk K F G H (σ ++ [v]) (ρ ++ [some c])) (hl : σ.length = ρ.length) : BxOk K F G H σ ρ :=
  B.to (.refl _) (fun p m => ⟨(B.free m).1, (B.free m).2.1, rfl⟩) (fun i s h => ⟨at_more h, by rw [List.getElem?_append_left (by rw [hl]; exact at_lt h)]⟩) fun j a xs h => .inl ⟨j, xs, at_more h⟩
theorem Sim.drop {c : Cell} (S : Sim K G F H (σ ++ [some v]) (ρ ++ [some c])) : Sim K G F H σ ρ := by
  have hl : σ.length = ρ.length := by have := S.len; simpa using this
  have ix : ∀ {i : Nat} {c : Cell}, ρ[i]? = some (some c) → i < ρ.length := fun {i c} h => by
    rcases Nat.lt_or_ge i ρ.length with q | q
    · exact q
    · rw [List.getElem?_eq_none q] at h; cases h
  have up : ∀ {i : Nat} {x : Cell}, ρ[i]? = some (some x) → (ρ ++ [some c])[i]? = some (some x) := fun {i x} h => by
    rw [List.getElem?_append_left (ix h)]; exact h
  refine ⟨S.hF, S.hG, hl, fun i d h => ?_, fun i a xs h => ?_, fun i j a xs ys h1 h2 => S.ne i j a xs ys (up h1) (up h2), S.bx.drop hl⟩
  · obtain ⟨v, h1, h2⟩ := S.val i d (up h)
    rw [List.getElem?_append_left (by rw [hl]; exact ix h)] at h1
    exact ⟨v, h1, h2⟩
  · obtain ⟨h1, h2⟩ := S.own i a xs (up h)
    rw [List.getElem?_append_left (by rw [hl]; exact ix h)] at h1
    exact ⟨h1, h2⟩
theorem Sim.lastVal (S : Sim K G F H (σ ++ [some v]) (ρ ++ [some (.val d)])) : Rep K F v d := by
  have hl : σ.length = ρ.length := by have := S.len; simpa using this
  obtain ⟨u, h1, h2⟩ := S.val ρ.length d (by simp)
  rw [← hl] at h1
  simp at h1
  subst h1
  exact h2
theorem Sim.lastOwn {a : Addr} {xs : List D} (S : Sim K G F H (σ ++ [some v]) (ρ ++ [some (.own a xs)])) : v = .ref a ∧ F a = none ∧ G a = none ∧ NotOwn ρ a ∧ ∃ vs, H a = some (.lst vs) ∧ Reps K F vs xs := by
  have hl : σ.length = ρ.length := by have := S.len; simpa using this
  obtain ⟨h1, h2, h3, h4⟩ := S.own ρ.length a xs (by simp)
  rw [← hl] at h1
  simp at h1
  refine ⟨h1, h2, h3, ⟨fun i ys h => ?_, fun ⟨i, s, m1, m2⟩ => S.bx.bo ρ.length a xs (by simp) ⟨i, s, at_more m1, m2⟩⟩, h4⟩
  have hi : i < ρ.length := by
    rcases Nat.lt_or_ge i ρ.length with q | q
    · exact q
    · rw [List.getElem?_eq_none q] at h; cases h
  have := S.ne i ρ.length a ys xs (by rw [List.getElem?_append_left hi]; exact h) (by simp)
  omega
theorem Sim.pushVal (S : Sim K G F H σ ρ) (r : Rep K F v d) : Sim K G F H (σ ++ [some v]) (ρ ++ [some (.val d)]) := by
  have cut : ∀ {i : Nat} {x : Cell}, (ρ ++ [some (.val d)])[i]? = some (some x) → (ρ[i]? = some (some x) ∧ i < ρ.length) ∨ (i = ρ.length ∧ x = .val d) := fun {i x} h => by
    rcases Nat.lt_or_ge i ρ.length with q | q
    · rw [List.getElem?_append_left q] at h; exact .inl ⟨h, q⟩
    · rw [List.getElem?_append_right q] at h
      rcases Nat.eq_zero_or_pos (i - ρ.length) with z | z
      · rw [z] at h; simp at h; exact .inr ⟨by omega, h.symm⟩
      · rw [List.getElem?_eq_none (by simp; omega)] at h; cases h
  refine ⟨S.hF, S.hG, by simp [S.len], fun i d' h => ?_, fun i a xs h => ?_, fun i j a xs ys h1 h2 => ?_, S.bx.push S.len _ (by simp) (by simp)⟩
  · rcases cut h with ⟨h, q⟩ | ⟨rfl, e⟩
    · obtain ⟨u, g1, g2⟩ := S.val i d' h
      exact ⟨u, by rw [List.getElem?_append_left (by rw [S.len]; exact q)]; exact g1, g2⟩
    · cases e
      exact ⟨v, by rw [← S.len]; simp, r⟩
  · rcases cut h with ⟨h, q⟩ | ⟨_, e⟩
    · obtain ⟨g1, g2⟩ := S.own i a xs h
      exact ⟨by rw [List.getElem?_append_left (by rw [S.len]; exact q)]; exact g1, g2⟩
    · cases e
  · rcases cut h1 with ⟨h1, _⟩ | ⟨_, e⟩
    · rcases cut h2 with ⟨h2, _⟩ | ⟨_, e⟩
      · exact S.ne i j a xs ys h1 h2
      · cases e
    · cases e
theorem Sim.pushOwn (S : Sim K G F H σ ρ) {a : Addr} {vs : List V} {xs : List D} (hH : H a = some (.lst vs)) (hF : F a = none) (hG : G a = none) (hn : NotOwn ρ a) (r : Reps K F vs xs) :
    Sim K G F H (σ ++ [some (.ref a)]) (ρ ++ [some (.own a xs)]) := by
  have cut : ∀ {i : Nat} {x : Cell}, (ρ ++ [some (.own a xs)])[i]? = some (some x) → (ρ[i]? = some (some x) ∧ i < ρ.length) ∨ (i = ρ.length ∧ x = .own a xs) := fun {i x} h => by
    rcases Nat.lt_or_ge i ρ.length with q | q
    · rw [List.getElem?_append_left q] at h; exact .inl ⟨h, q⟩
    · rw [List.getElem?_append_right q] at h
      rcases Nat.eq_zero_or_pos (i - ρ.length) with z | z
      · rw [z] at h; simp at h; exact .inr ⟨by omega, h.symm⟩
      · rw [List.getElem?_eq_none (by simp; omega)] at h; cases h
  refine ⟨S.hF, S.hG, by simp [S.len], fun i d' h => ?_, fun i b ys h => ?_, fun i j b ys zs h1 h2 => ?_, S.bx.push S.len _ (by simp) fun b ys e => by cases e; exact hn.2⟩
  · rcases cut h with ⟨h, q⟩ | ⟨_, e⟩
    · obtain ⟨u, g1, g2⟩ := S.val i d' h
      exact ⟨u, by rw [List.getElem?_append_left (by rw [S.len]; exact q)]; exact g1, g2⟩
    · cases e
  · rcases cut h with ⟨h, q⟩ | ⟨rfl, e⟩
    · obtain ⟨g1, g2⟩ := S.own i b ys h
      exact ⟨by rw [List.getElem?_append_left (by rw [S.len]; exact q)]; exact g1, g2⟩
    · cases e
      exact ⟨by rw [← S.len]; simp, hF, hG, vs, hH, r⟩
  · rcases cut h1 with ⟨h1, _⟩ | ⟨e1, e⟩
    · rcases cut h2 with ⟨h2, _⟩ | ⟨_, e⟩
      · exact S.ne i j b ys zs h1 h2
      · cases e
        exact absurd h1 (hn.1 _ _)
    · cases e
      rcases cut h2 with ⟨h2, _⟩ | ⟨e2, _⟩
      · exact absurd h2 (hn.1 _ _)
      · omega
theorem Sim.lastBox {s : Sh} (S : Sim K G F H (σ ++ [some v]) (ρ ++ [some (.box s)])) : v = .ref s.root ∧ (∀ p ∈ s.foot, F p = none ∧ G p = none) ∧ s.At K F H ∧ ∀ p ∈ s.foot, NotOwn ρ p := by
  have hl : σ.length = ρ.length := by have := S.len; simpa using this
  obtain ⟨h1, h2, h3⟩ := S.bx.box ρ.length s (by simp)
  rw [← hl] at h1
  simp at h1
  refine ⟨h1, h2, h3, fun p m => ⟨fun i ys h => ?_, fun ⟨i, t, m1, m2⟩ => ?_⟩⟩
  · exact S.bx.bo i p ys (at_more h) ⟨ρ.length, s, by simp, m⟩
  · have := S.bx.bb i ρ.length t s p (at_more m1) (by simp) m2 m
    have := at_lt m1
    omega
theorem Sim.pushBox (S : Sim K G F H σ ρ) {s : Sh} (hf : ∀ p ∈ s.foot, F p = none ∧ G p = none) (ha : s.At K F H) (hn : ∀ p ∈ s.foot, NotOwn ρ p) : Sim K G F H (σ ++ [some (.ref s.root)]) (ρ ++ [some (.box s)]) := by
  refine ⟨S.hF, S.hG, by simp [S.len], fun i d' h => ?_, fun i b ys h => ?_, fun i j b ys zs h1 h2 => ?_, fun i t h => ?_, fun i j t u p h1 h2 m1 m2 => ?_, fun j a xs h ⟨i, t, h1, m⟩ => ?_⟩
  · rcases cut_last h with ⟨h, q⟩ | ⟨_, e⟩
    · obtain ⟨u, g1, g2⟩ := S.val i d' h
      exact ⟨u, by rw [List.getElem?_append_left (by rw [S.len]; exact q)]; exact g1, g2⟩
    · cases e
  · rcases cut_last h with ⟨h, q⟩ | ⟨_, e⟩
    · obtain ⟨g1, g2⟩ := S.own i b ys h
      exact ⟨by rw [List.getElem?_append_left (by rw [S.len]; exact q)]; exact g1, g2⟩
    · cases e
  · rcases cut_last h1 with ⟨h1, _⟩ | ⟨_, e⟩
    · rcases cut_last h2 with ⟨h2, _⟩ | ⟨_, e⟩
      · exact S.ne i j b ys zs h1 h2
      · cases e
    · cases e
  · rcases cut_last h with ⟨h, q⟩ | ⟨rfl, e⟩
    · obtain ⟨g1, g2⟩ := S.bx.box i t h
      exact ⟨by rw [List.getElem?_append_left (by rw [S.len]; exact q)]; exact g1, g2⟩
    · cases e
      exact ⟨by rw [← S.len]; simp, hf, ha⟩
  · rcases cut_last h1 with ⟨h1, _⟩ | ⟨e1, e⟩
    · rcases cut_last h2 with ⟨h2, _⟩ | ⟨_, e⟩
      · exact S.bx.bb i j t u p h1 h2 m1 m2
      · cases e
        exact absurd ⟨i, t, h1, m1⟩ (hn p m2).2
    · cases e
      rcases cut_last h2 with ⟨h2, _⟩ | ⟨e2, _⟩
      · exact absurd ⟨j, u, h2, m2⟩ (hn p m1).2
      · omega
  · rcases cut_last h with ⟨h, _⟩ | ⟨_, e⟩
    · rcases cut_last h1 with ⟨h1, _⟩ | ⟨_, e⟩
      · exact S.bx.bo j a xs h ⟨i, t, h1, m⟩
      · cases e
        exact (hn a m).1 j xs h
    · cases e
theorem Sim.setBox (S : Sim K G F H σ ρ) (i : Nat) {s : Sh} (hf : ∀ p ∈ s.foot, F p = none ∧ G p = none) (ha : s.At K F H) (hn : ∀ p ∈ s.foot, NotOwn ρ p) : Sim K G F H (σ.set i (some (.ref s.root))) (ρ.set i (some (.box s))) := by
  have far : ∀ (j : Nat) (c : Cell), i ≠ j → (ρ.set i (some (.box s)))[j]? = some (some c) → ρ[j]? = some (some c) := fun j c hj q => by
    rw [List.getElem?_set_ne hj] at q; exact q
  have near : ∀ (c : Cell), (ρ.set i (some (.box s)))[i]? = some (some c) → c = .box s ∧ i < ρ.length := fun c q => by
    by_cases hi : i < ρ.length
    · rw [List.getElem?_set_self hi] at q; cases q; exact ⟨rfl, hi⟩
    · rw [List.getElem?_eq_none (by simpa using hi)] at q; cases q
  have cut : ∀ {j : Nat} {x : Cell}, (ρ.set i (some (.box s)))[j]? = some (some x) → (ρ[j]? = some (some x) ∧ i ≠ j) ∨ (j = i ∧ x = .box s ∧ i < ρ.length) := fun {j x} h => by
    by_cases hj : i = j
    · subst hj; exact .inr ⟨rfl, near _ h⟩
    · exact .inl ⟨far _ _ hj h, hj⟩
  refine ⟨S.hF, S.hG, by simpa using S.len, fun j d' h => ?_, fun j b ys h => ?_, fun j k b ys zs h1 h2 => ?_, fun j t h => ?_, fun j k t u p h1 h2 m1 m2 => ?_, fun j a xs h ⟨k, t, h1, m⟩ => ?_⟩
  · rcases cut h with ⟨h, q⟩ | ⟨_, e, _⟩
    · obtain ⟨u, g1, g2⟩ := S.val j d' h
      exact ⟨u, by rw [List.getElem?_set_ne q]; exact g1, g2⟩
    · cases e
  · rcases cut h with ⟨h, q⟩ | ⟨_, e, _⟩
    · obtain ⟨g1, g2⟩ := S.own j b ys h
      exact ⟨by rw [List.getElem?_set_ne q]; exact g1, g2⟩
    · cases e
  · rcases cut h1 with ⟨h1, _⟩ | ⟨_, e, _⟩
    · rcases cut h2 with ⟨h2, _⟩ | ⟨_, e, _⟩
      · exact S.ne j k b ys zs h1 h2
      · cases e
    · cases e
  · rcases cut h with ⟨h, q⟩ | ⟨rfl, e, hi⟩
    · obtain ⟨g1, g2⟩ := S.bx.box j t h
      exact ⟨by rw [List.getElem?_set_ne q]; exact g1, g2⟩
    · cases e
      exact ⟨List.getElem?_set_self (by rw [S.len]; exact hi), hf, ha⟩
  · rcases cut h1 with ⟨h1, _⟩ | ⟨e1, e, _⟩
    · rcases cut h2 with ⟨h2, _⟩ | ⟨_, e, _⟩
      · exact S.bx.bb j k t u p h1 h2 m1 m2
      · cases e
        exact absurd ⟨j, t, h1, m1⟩ (hn p m2).2
    · cases e
      rcases cut h2 with ⟨h2, _⟩ | ⟨e2, _⟩
      · exact absurd ⟨k, u, h2, m2⟩ (hn p m1).2
      · omega
  · rcases cut h with ⟨h, _⟩ | ⟨_, e, _⟩
    · rcases cut h1 with ⟨h1, _⟩ | ⟨_, e, _⟩
      · exact S.bx.bo j a xs h ⟨k, t, h1, m⟩
      · cases e
        exact (hn a m).1 j xs h
    · cases e
theorem Sim.store {c : Cell} (S : Sim K G F H (σ ++ [some v]) (ρ ++ [some c])) (i : Nat) : Sim K G F H (σ.set i (some v)) (ρ.set i (some c)) := by
  cases c with
  | val d => exact S.drop.setVal i S.lastVal
  | own a xs =>
    obtain ⟨rfl, h2, h3, h4, vs, h5, h6⟩ := S.lastOwn
    exact S.drop.setOwn i h5 h2 h3 h4 h6
  | box s =>
    obtain ⟨rfl, h2, h3, h4⟩ := S.lastBox
    exact S.drop.setBox i h2 h3 h4
def Cell.froz : Cell → D
  | .val d => d
  | .own _ xs => .lst xs
  | .box s => .adr s.root
theorem Sim.froz {c : Cell} (S : Sim K G F H (σ ++ [some v]) (ρ ++ [some c])) : ∃ F', Up G F F' ∧ Sim K G F' H σ ρ ∧ Rep K F' v c.froz := by
  cases c with
  | val d => exact ⟨F, .refl _ _, S.drop, S.lastVal⟩
  | own a xs =>
    obtain ⟨rfl, _⟩ := S.lastOwn
    obtain ⟨F', u, r, S'⟩ := S.freeze (i := ρ.length) (a := a) (xs := xs) (by simp)
    refine ⟨F', u, ?_, r⟩
    rw [List.set_append_right _ _ (Nat.le_refl _)] at S'
    simp at S'
    exact S'.drop
  | box s =>
    obtain ⟨rfl, _⟩ := S.lastBox
    exact ⟨F, .refl _ _, S.drop, .adr _⟩
end
section
variable {X : Cx}
def pFrz (T : TCp) : TEp := fun ρ Q => T ρ fun c ρ' => Q c.froz ρ'
def pVal (T : TEp) : TCp := fun ρ Q => T ρ fun d ρ' => Q (.val d) ρ'
theorem ppe_frz {e : Expr} {t : TE} {T : TCp} (h : PPC X e t T) : PPE X e t (pFrz T) := ⟨h.pe, fun G F H σ ρ Q R S hT k => h.snd G F H σ ρ _ R S hT fun v c F' H' ρ' u S' q => by
  obtain ⟨F2, u2, S2, r2⟩ := S'.froz
  exact k v _ F2 H' ρ' (u.trans u2) S2 r2 q⟩
theorem ppc_val {e : Expr} {t : TE} {T : TEp} (h : PPE X e t T) : PPC X e t (pVal T) := ⟨h.pe, fun G F H σ ρ Q R S hT k => h.snd G F H σ ρ _ R S hT fun v d F' H' ρ' u S' r q => k v _ F' H' ρ' u (S'.pushVal r) q⟩
def pVar (i : Nat) : TEp := fun ρ Q => match ρ[i]? with
  | some (some (.val d)) => Q d ρ
  | some (some (.own _ xs)) => Q (.lst xs) (ρ.set i (some (.val (.lst xs))))
  | _ => False
theorem ppe_var (i : Nat) {x : Str} {pos : Pos} (hN : X.N[i]? = some x := by rfl) (hv : Vis X.env.scope x := by first | exact Or.inl rfl | exact Or.inr (Or.inl rfl) | exact Or.inr (Or.inr rfl)) (hd : (x == ("__debug__" : Str)) = false := by decide)
    (hcd : (x == ("__classdict__" : Str)) = false := by decide) : PPE X (.Name x pos) (tVar i) (pVar i) := ⟨pe_var hN hv hd hcd, fun G F H σ ρ Q R S hT k => by
  unfold pVar at hT
  split at hT
  · rename_i d e
    obtain ⟨v, h1, h2⟩ := S.val i d e
    exact ⟨v, h1, k v d F H ρ (.refl _ _) S h2 hT⟩
  · rename_i a xs e
    obtain ⟨F', u, r, S'⟩ := S.freeze e
    exact ⟨.ref a, (S.own i a xs e).1, k _ _ F' H _ u S' r hT⟩
  · exact hT.elim⟩
def pMove (i : Nat) : TCp := fun ρ Q => match ρ[i]? with
  | some (some (.val d)) => Q (.val d) ρ
  | some (some (.own a xs)) => Q (.own a xs) (ρ.set i none)
  | some (some (.box s)) => Q (.box s) (ρ.set i none)
  | _ => False
theorem ppc_move (i : Nat) {x : Str} {pos : Pos} (hN : X.N[i]? = some x := by rfl) (hv : Vis X.env.scope x := by first | exact Or.inl rfl | exact Or.inr (Or.inl rfl) | exact Or.inr (Or.inr rfl)) (hd : (x == ("__debug__" : Str)) = false := by decide)
    (hcd : (x == ("__classdict__" : Str)) = false := by decide) : PPC X (.Name x pos) (tVar i) (pMove i) := ⟨pe_var hN hv hd hcd, fun G F H σ ρ Q R S hT k => by
  unfold pMove at hT
  split at hT
  · rename_i d e
    obtain ⟨v, h1, h2⟩ := S.val i d e
    exact ⟨v, h1, k v _ F H ρ (.refl _ _) (S.pushVal h2) hT⟩
  · rename_i a xs e
    obtain ⟨h1, h2, h3, vs, h4, h5⟩ := S.own i a xs e
    refine ⟨.ref a, h1, k _ _ F H _ (.refl _ _) ((S.forget' i).pushOwn h4 h2 h3 ⟨fun j ys q => ?_, fun ⟨j, s, m1, m2⟩ => S.bx.bo i a xs e ⟨j, s, (set_box (by simp) m1).1, m2⟩⟩ h5) hT⟩
    by_cases hj : i = j
    · subst hj
      by_cases hi : i < ρ.length
      · rw [List.getElem?_set_self hi] at q; cases q
      · rw [List.getElem?_eq_none (by simpa using hi)] at q; cases q
    · rw [List.getElem?_set_ne hj] at q
      exact hj (S.ne _ _ _ _ _ e q)
  · rename_i s e
    obtain ⟨h1, h2, h3⟩ := S.bx.box i s e
    refine ⟨.ref s.root, h1, k _ _ F H _ (.refl _ _) ((S.forget' i).pushBox h2 h3 fun p m => ⟨fun j ys q => ?_, fun ⟨j, t, m1, m2⟩ => ?_⟩) hT⟩
    · exact S.bx.bo j p ys ((set_own q).elim (fun z => by cases z) id) ⟨i, s, e, m⟩
    · obtain ⟨q1, q2⟩ := set_box (by simp) m1
      exact q2 (S.bx.bb i j s t p e q1 m m2)
  · exact hT.elim⟩
def pC (d : D) : TEp := fun ρ Q => Q d ρ
theorem snd_c {K : PySem.W.Frag} {v : V} {d : D} (h : ∀ F, Rep K F v d) : SndE K (tC v) (pC d) := fun G F H σ ρ Q R S hT k => k v d F H ρ (.refl _ _) S (h F) hT
theorem ppe_int {i j pos} : PPE X (.Constant (.int i) j pos) (tC (.int i)) (pC (.int i)) := ⟨pe_int, snd_c fun _ => .int i⟩
theorem ppe_bl {b j pos} : PPE X (.Constant (.bool b) j pos) (tC (.bl b)) (pC (.bl b)) := ⟨pe_bl, snd_c fun _ => .bl b⟩
theorem ppe_non {j pos} : PPE X (.Constant .none j pos) (tC .non) (pC .non) := ⟨pe_non, snd_c fun _ => .non⟩
theorem ppe_str {x j pos} : PPE X (.Constant (.str x) j pos) (tC (.str x)) (pC (.str x)) := ⟨pe_str, snd_c fun _ => .str x⟩
abbrev F2 := D → D → (D → Prop) → Prop
abbrev F1 := D → (D → Prop) → Prop
def OpP (K : PySem.W.Frag) (r : R2) (f : F2) : Prop := ∀ (F H : Hp) (x y : V) (dx dy : D) (Q : D → Prop) (R : VK), Same F H → Rep K F x dx → Rep K F y dy → f dx dy Q →
  (∀ v d F' H', Res K F H v d F' H' → Q d → R v H') → r x y H R
def UnP (K : PySem.W.Frag) (r : V → Hp → VK → Prop) (f : F1) : Prop := ∀ (F H : Hp) (x : V) (dx : D) (Q : D → Prop) (R : VK), Same F H → Rep K F x dx → f dx Q →
  (∀ v d F' H', Res K F H v d F' H' → Q d → R v H') → r x H R
def CallP (K : PySem.W.Frag) (r : List V → Hp → VK → Prop) (f : List D → (D → Prop) → Prop) : Prop := ∀ (F H : Hp) (xs : List V) (ds : List D) (Q : D → Prop) (R : VK), Same F H → Reps K F xs ds → f ds Q →
  (∀ v d F' H', Res K F H v d F' H' → Q d → R v H') → r xs H R
def pOp (f : F2) (Ta Tb : TEp) : TEp := fun ρ Q => Ta ρ fun x ρ1 => Tb ρ1 fun y ρ2 => f x y fun z => Q z ρ2
def pUn (f : F1) (Ta : TEp) : TEp := fun ρ Q => Ta ρ fun x ρ1 => f x fun z => Q z ρ1
theorem snd_op {K : PySem.W.Frag} {r : R2} {f : F2} {ta tb : TE} {Ta Tb : TEp} (hp : OpP K r f) (ha : SndE K ta Ta) (hb : SndE K tb Tb) : SndE K (tOp r ta tb) (pOp f Ta Tb) := fun G F H σ ρ Q R S hT k =>
  ha G F H σ ρ _ _ S hT fun x dx F1 H1 ρ1 u1 S1 r1 h1 => hb G F1 H1 σ ρ1 _ _ S1 h1 fun y dy F2 H2 ρ2 u2 S2 r2 h2 =>
    hp F2 H2 x y dx dy _ _ S2.hF (r1.mono u2.ex) r2 h2 fun v d F3 H3 res q => by
      obtain ⟨u3, S3, r3⟩ := S2.res res
      exact k v d F3 H3 ρ2 ((u1.trans u2).trans u3) S3 r3 q
theorem snd_un {K : PySem.W.Frag} {r : V → Hp → VK → Prop} {f : F1} {ta : TE} {Ta : TEp} (hp : UnP K r f) (ha : SndE K ta Ta) : SndE K (tUn r ta) (pUn f Ta) := fun G F H σ ρ Q R S hT k =>
  ha G F H σ ρ _ _ S hT fun x dx F1 H1 ρ1 u1 S1 r1 h1 => hp F1 H1 x dx _ _ S1.hF r1 h1 fun v d F3 H3 res q => by
      obtain ⟨u3, S3, r3⟩ := S1.res res
      exact k v d F3 H3 ρ1 (u1.trans u3) S3 r3 q
variable {a b c : Expr} {ta tb tc : TE} {Ta Tb Tc : TEp} {pos : Pos}
theorem ppe_op {op : Operator} {r : R2} {f : F2} (ho : OpR X (binaryOp op) r) (hp : OpP X.K r f) (ha : PPE X a ta Ta) (hb : PPE X b tb Tb) : PPE X (.BinOp a op b pos) (tOp r ta tb) (pOp f Ta Tb) := ⟨pe_op ho ha.pe hb.pe, snd_op hp ha.snd hb.snd⟩
theorem ppe_un {op : UnaryOp} {r : V → Hp → VK → Prop} {f : F1} (ho : UnR X (unaryOp op) r) (hp : UnP X.K r f) (ha : PPE X a ta Ta) : PPE X (.UnaryOp op a pos) (tUn r ta) (pUn f Ta) := ⟨pe_un ho ha.pe, snd_un hp ha.snd⟩
theorem OpP.or {K : PySem.W.Frag} {r r' : R2} {f : F2} (h : ∀ (F H : Hp) (x y : V) (dx dy : D) (Q : D → Prop) (R : VK), Same F H → Rep K F x dx → Rep K F y dy → f dx dy Q →
  (∀ v d F' H', Res K F H v d F' H' → Q d → R v H') → r x y H R ∨ r' x y H R) : OpP K (fun x y H Q => r x y H Q ∨ r' x y H Q) f := h
def fAdd : F2 := fun x y Q => match x, y with
  | .int i, .int j => Q (.int (i + j))
  | .str i, .str j => i.length + j.length ≤ sizeLine ∧ Q (.str (i ++ j))
  | .lst xs, .lst ys => xs.length + ys.length ≤ sizeLine ∧ Q (.lst (xs ++ ys))
  | .tup xs, .tup ys => xs.length + ys.length ≤ sizeLine ∧ Q (.tup (xs ++ ys))
  | _, _ => False
def rAddA (K : PySem.W.Frag) : R2 := fun x y H Q => (rI0 (fun i j => .int (i + j)) x y H Q ∨ (∃ i j, x = .str i ∧ y = .str j ∧ i.length + j.length ≤ sizeLine ∧ Q (.str (i ++ j)) H)) ∨ (rCat x y H Q ∨ rCatA K x y H Q)
theorem opr_add : OpR X (binaryOp .Add) (rAddA X.K) := OpR.or (OpR.or op_add op_add_str) (OpR.or op_cat op_catA)
theorem opp_add : OpP X.K (rAddA X.K) fAdd := fun F H x y dx dy Q R hs rx ry hf k => by
  cases rx with
  | int i =>
    cases ry with
    | int j => exact .inl (.inl ⟨i, j, rfl, rfl, k _ _ _ _ (.old (.int _)) hf⟩)
    | _ => exact hf.elim
  | str i =>
    cases ry with
    | str j => exact .inl (.inr ⟨i, j, rfl, rfl, hf.1, k _ _ _ _ (.old (.str _)) hf.2⟩)
    | _ => exact hf.elim
  | lst h1 r1 =>
    cases ry with
    | lst h2 r2 =>
      refine .inr (.inl ⟨_, _, _, _, rfl, rfl, hs _ _ h1, hs _ _ h2, by rw [r1.length, r2.length]; exact hf.1, fun p hp => ?_⟩)
      have hn : F p = none := hs.free hp
      exact k _ _ _ _ (.new hp (.lst upd_same ((r1.mono (same_new hn)).append (r2.mono (same_new hn))))) hf.2
    | _ => exact hf.elim
  | @tup _ vs xs h1 r1 =>
    cases ry with
    | @tup _ ws ys h2 r2 =>
      refine .inr (.inr ⟨_, _, _, _, rfl, rfl, SqT.of (hs _ _ h1), SqT.of (hs _ _ h2), by rw [r1.length, r2.length]; exact hf.1, fun e => ?_, fun e e2 => ?_, fun e e2 p hp => ?_⟩)
      · have := r1.length; subst e; cases r1; exact k _ _ _ _ (.old (.tup h2 r2)) hf.2
      · subst e2; cases r2; refine k _ _ _ _ (.old (.tup h1 r1)) ?_; have := hf.2; simpa using this
      · have hn : F p = none := hs.free hp
        exact k _ _ _ _ (.new hp (.tup upd_same ((r1.mono (same_new hn)).append (r2.mono (same_new hn))))) hf.2
    | _ => exact hf.elim
  | non => exact hf.elim
  | bl _ => exact hf.elim
  | scr _ => exact hf.elim
  | adr _ => exact hf.elim
  | exc _ _ _ _ => exact hf.elim
def f2I (C : Int → Int → Prop) (g : Int → Int → D) : F2 := fun x y Q => match x, y with
  | .int i, .int j => C i j ∧ Q (g i j)
  | _, _ => False
def f2I0 (g : Int → Int → D) : F2 := fun x y Q => match x, y with
  | .int i, .int j => Q (g i j)
  | _, _ => False
theorem opp_I {C C' : Int → Int → Prop} {g : Int → Int → V} {g' : Int → Int → D} (hc : ∀ i j, C' i j → C i j) (h : ∀ F i j, Rep X.K F (g i j) (g' i j)) : OpP X.K (rI C g) (f2I C' g') := fun F H x y dx dy Q R hs rx ry hf k => by
  cases rx with
  | int i =>
    cases ry with
    | int j => exact ⟨i, j, rfl, rfl, hc _ _ hf.1, k _ _ _ _ (.old (h F i j)) hf.2⟩
    | _ => exact hf.elim
  | _ => exact hf.elim
theorem opp_I0 {g : Int → Int → V} {g' : Int → Int → D} (h : ∀ F i j, Rep X.K F (g i j) (g' i j)) : OpP X.K (rI0 g) (f2I0 g') := fun F H x y dx dy Q R hs rx ry hf k => by
  cases rx with
  | int i =>
    cases ry with
    | int j => exact ⟨i, j, rfl, rfl, k _ _ _ _ (.old (h F i j)) hf⟩
    | _ => exact hf.elim
  | _ => exact hf.elim
def fSub : F2 := f2I0 fun i j => .int (i - j)
def fMod : F2 := f2I (fun _ j => 0 < j) fun i j => .int (i % j)
def fDiv : F2 := f2I (fun _ j => 0 < j ∧ j < 2 ^ 64) fun i j => .int (i / j)
def fMulI : F2 := f2I CMul fun i j => .int (i * j)
theorem ppe_add (ha : PPE X a ta Ta) (hb : PPE X b tb Tb) : PPE X (.BinOp a .Add b pos) (tOp (rAddA X.K) ta tb) (pOp fAdd Ta Tb) := ppe_op opr_add opp_add ha hb
theorem ppe_sub (ha : PPE X a ta Ta) (hb : PPE X b tb Tb) : PPE X (.BinOp a .Sub b pos) (tOp (rI0 fun i j => .int (i - j)) ta tb) (pOp fSub Ta Tb) := ppe_op op_sub (opp_I0 fun _ _ _ => .int _) ha hb
theorem ppe_mul (ha : PPE X a ta Ta) (hb : PPE X b tb Tb) : PPE X (.BinOp a .Mult b pos) (tOp (rI CMul fun i j => .int (i * j)) ta tb) (pOp fMulI Ta Tb) := ppe_op op_mul (opp_I (fun _ _ h => h) fun _ _ _ => .int _) ha hb
theorem ppe_mod (ha : PPE X a ta Ta) (hb : PPE X b tb Tb) : PPE X (.BinOp a .Mod b pos) (tOp (rI (fun _ j => 0 < j) fun i j => .int (i % j)) ta tb) (pOp fMod Ta Tb) := ppe_op op_mod (opp_I (fun _ _ h => h) fun _ _ _ => .int _) ha hb
theorem ppe_div (ha : PPE X a ta Ta) (hb : PPE X b tb Tb) : PPE X (.BinOp a .FloorDiv b pos) (tOp (rI CDivW fun i j => .int (i / j)) ta tb) (pOp fDiv Ta Tb) :=
  ppe_op op_fdivW (opp_I (fun _ _ h => wide_div (b := 64) h.1 (by have := h.1; have := h.2; omega) (by decide) (by decide)) fun _ _ _ => .int _) ha hb
theorem ppe_powc {i j : Int} {u v pa pb} (n : Int) (h : 0 ≤ j ∧ j ≤ 1000000 ∧ i.natAbs < 2 ^ 64 := by decide) (hn : i ^ j.toNat = n := by decide) : PPE X (.BinOp (.Constant (.int i) u pa) .Pow (.Constant (.int j) v pb) pos) (tOp (rI CPow fun i j => .int (i ^ j.toNat)) (tC (.int i)) (tC (.int j))) (pC (.int n)) :=
  ⟨pe_op op_pow pe_int pe_int, fun G F H σ ρ Q R S hT k => ⟨i, j, rfl, rfl, h, by show R (V.int (i ^ j.toNat)) H; rw [hn]; exact k _ _ F H ρ (.refl _ _) S (.int n) hT⟩⟩
def fRep : F2 := fun x y Q => match x, y with
  | .lst xs, .int k => 0 ≤ k ∧ k ≤ 1000 ∧ xs.length ≤ 1000 ∧ Q (.lst (List.replicate k.toNat xs).flatten)
  | _, _ => False
theorem Reps.rep {K : PySem.W.Frag} {F : Hp} {vs : List V} {ds : List D} (h : Reps K F vs ds) : ∀ n : Nat, Reps K F (List.replicate n vs).flatten (List.replicate n ds).flatten
  | 0 => .nil
  | n + 1 => by
    rw [List.replicate_succ, List.replicate_succ, List.flatten_cons, List.flatten_cons]
    exact h.append (Reps.rep h n)
theorem ppe_rep (ha : PPE X a ta Ta) (hb : PPE X b tb Tb) : PPE X (.BinOp a .Mult b pos) (tOp rRep ta tb) (pOp fRep Ta Tb) := ppe_op op_rep (fun F H x y dx dy Q R hs rx ry hf k => by
  cases rx with
  | @lst a vs xs h1 r1 =>
    cases ry with
    | int n =>
      obtain ⟨f1, f2, f3, f4⟩ := hf
      refine ⟨_, _, _, rfl, rfl, hs _ _ h1, by omega, by omega, ?_, fun p hp => ?_⟩
      · have e1 : vs.length ≤ 1000 := by rw [r1.length]; exact f3
        have e2 : n.toNat ≤ 1000 := by omega
        exact Nat.le_trans (Nat.mul_le_mul e1 e2) (by decide)
      · have hn : F p = none := hs.free hp
        exact k _ _ _ _ (.new hp (.lst upd_same ((r1.mono (same_new hn)).rep n.toNat))) f4
    | _ => exact hf.elim
  | _ => exact hf.elim) ha hb
def fNeg : F1 := fun x Q => match x with
  | .int i => Q (.int (-i))
  | _ => False
theorem ppe_neg (ha : PPE X a ta Ta) : PPE X (.UnaryOp .USub a pos) (tUn (rU fun i => .int (-i)) ta) (pUn fNeg Ta) := ppe_un un_neg (fun F H x dx Q R hs rx hf k => by
  cases rx with
  | int i => exact ⟨i, rfl, k _ _ _ _ (.old (.int _)) hf⟩
  | _ => exact hf.elim) ha
mutual
def toPy : D → PyData
  | .non => .none
  | .bl b => .bool b
  | .int i => .int i
  | .str x => .str x
  | .lst xs => .list (toPys xs)
  | .tup xs => .tuple (toPys xs)
  | .scr ns => .list (ns.map PyData.int)
  | .adr _ => .dict []
  | .exc _ _ => .dict []
def toPys : List D → List PyData
  | [] => []
  | x :: xs => toPy x :: toPys xs
end
theorem dp_ints {K : PySem.W.Frag} {H : Hp} : ∀ ns : List Int, DpAll K H (ns.map V.int) (ns.map PyData.int)
  | [] => .nil
  | n :: ns => .cons (.int n) (dp_ints ns)
mutual
theorem Rep.dp0 {K : PySem.W.Frag} {F H : Hp} (e : Same F H) : ∀ {v : V} {d : D}, Rep K F v d → PyData.canLay0 (toPy d) = true → Dp K H v (toPy d)
  | _, _, .non, _ => by rw [toPy]; exact .non
  | _, _, .bl b, _ => by rw [toPy]; exact .bl b
  | _, _, .int i, _ => by rw [toPy]; exact .int i
  | _, _, .str x, _ => by rw [toPy]; exact .str x
  | _, _, .lst h r, c => by
    rw [toPy] at c ⊢
    rw [PyData.canLay0] at c
    exact .lst (SqL.of (e _ _ h)) (Reps.dp0 e r c)
  | _, _, .tup h r, c => by
    rw [toPy] at c ⊢
    rw [PyData.canLay0] at c
    exact .tup (SqT.of (e _ _ h)) (Reps.dp0 e r c)
  | _, _, .scr h, _ => by rw [toPy]; exact .lst (e.seq h) (dp_ints _)
  | _, _, .adr _, c => by rw [toPy, PyData.canLay0] at c; cases c
  | _, _, .exc _ _ _ _, c => by rw [toPy, PyData.canLay0] at c; cases c
theorem Reps.dp0 {K : PySem.W.Frag} {F H : Hp} (e : Same F H) : ∀ {vs : List V} {ds : List D}, Reps K F vs ds → PyData.canLayAll0 (toPys ds) = true → DpAll K H vs (toPys ds)
  | _, _, .nil, _ => by rw [toPys]; exact .nil
  | _, _, .cons h r, c => by
    rw [toPys] at c ⊢
    rw [PyData.canLayAll0, Bool.and_eq_true] at c
    exact .cons (Rep.dp0 e h c.1) (Reps.dp0 e r c.2)
end
theorem shaped_lay {d : PyData} (h : SeqAt.shaped d = true) : PyData.canLay0 d = true := by
  unfold SeqAt.shaped at h
  rw [Bool.and_eq_true] at h
  exact h.1
theorem Rep.dp {K : PySem.W.Frag} {F H : Hp} (e : Same F H) {v : V} {d : D} (r : Rep K F v d) (h : SeqAt.shaped (toPy d) = true) : Dp K H v (toPy d) := r.dp0 e (shaped_lay h)
def D.eqv (x y : D) : Bool := PyData.eqv (toPy x) (toPy y)
def D.sh (x : D) : Prop := SeqAt.shaped (toPy x) = true
def fEq : F2 := fun x y Q => x.sh ∧ y.sh ∧ Q (.bl (x.eqv y))
def fNe : F2 := fun x y Q => x.sh ∧ y.sh ∧ Q (.bl (!x.eqv y))
theorem opp_eq : OpP X.K (rEqD X.K) fEq := fun F H x y dx dy Q R hs rx ry hf k => ⟨_, _, rx.dp hs hf.1, ry.dp hs hf.2.1, hf.1, hf.2.1, k _ _ _ _ (.old (.bl _)) hf.2.2⟩
theorem opp_ne : OpP X.K (rNeD X.K) fNe := fun F H x y dx dy Q R hs rx ry hf k => ⟨_, _, rx.dp hs hf.1, ry.dp hs hf.2.1, hf.1, hf.2.1, k _ _ _ _ (.old (.bl _)) hf.2.2⟩
def fLt : F2 := f2I0 fun i j => .bl (decide (i < j))
def fLe : F2 := f2I0 fun i j => .bl (decide (i ≤ j))
def fGt : F2 := f2I0 fun i j => .bl (decide (j < i))
def fGe : F2 := f2I0 fun i j => .bl (decide (j ≤ i))
def D.isNon : D → Bool
  | .non => true
  | _ => false
def fIsN : F2 := fun x y Q => match y with | .non => Q (.bl x.isNon) | _ => False
def fNotN : F2 := fun x y Q => match y with | .non => Q (.bl (!x.isNon)) | _ => False
theorem ite_t {A B : Prop} (h : if true = true then A else B) : A := by simpa using h
theorem ite_f {A B : Prop} (h : if false = true then A else B) : B := by simpa using h
theorem ite_ti {A B : Prop} (h : A) : if true = true then A else B := by simpa using h
theorem ite_fi {A B : Prop} (h : B) : if false = true then A else B := by simpa using h
structure Cmp (X : Cx) (op : CmpOp) (r : R2) (f : F2) : Prop where
  op : OpR X (compareOp op) r
  pp : OpP X.K r f
theorem cm_lt : Cmp X .Lt (rI0 fun i j => .bl (decide (i < j))) fLt := ⟨op_lt, opp_I0 fun _ _ _ => .bl _⟩
theorem cm_le : Cmp X .LtE (rI0 fun i j => .bl (decide (i ≤ j))) fLe := ⟨op_le, opp_I0 fun _ _ _ => .bl _⟩
theorem cm_gt : Cmp X .Gt (rI0 fun i j => .bl (decide (j < i))) fGt := ⟨op_gt, opp_I0 fun _ _ _ => .bl _⟩
theorem cm_ge : Cmp X .GtE (rI0 fun i j => .bl (decide (j ≤ i))) fGe := ⟨op_ge, opp_I0 fun _ _ _ => .bl _⟩
theorem cm_eq (hu : X.A.units + 64 < cLine) : Cmp X .Eq (rEqD X.K) fEq := ⟨op_eqD hu, opp_eq⟩
theorem cm_ne (hu : X.A.units + 64 < cLine) : Cmp X .NotEq (rNeD X.K) fNe := ⟨op_neD hu, opp_ne⟩
theorem dec_non {K : PySem.W.Frag} {F : Hp} {v : V} {d : D} (r : Rep K F v d) : decide (v = .non) = d.isNon := by
  cases r <;> rfl
theorem cm_isN : Cmp X .Is (fun x y H Q => y = .non ∧ Q (.bl (decide (x = .non))) H) fIsN := ⟨op_isN, fun F H x y dx dy Q R hs rx ry hf k => by
  cases ry with
  | non => exact ⟨rfl, by rw [dec_non rx]; exact k _ _ _ _ (.old (.bl _)) hf⟩
  | _ => exact hf.elim⟩
theorem cm_notN : Cmp X .IsNot (fun x y H Q => y = .non ∧ Q (.bl (!decide (x = .non))) H) fNotN := ⟨op_notN, fun F H x y dx dy Q R hs rx ry hf k => by
  cases ry with
  | non => exact ⟨rfl, by rw [dec_non rx]; exact k _ _ _ _ (.old (.bl _)) hf⟩
  | _ => exact hf.elim⟩
theorem ppe_cmp {op : CmpOp} {r : R2} {f : F2} (hc : Cmp X op r f) (ha : PPE X a ta Ta) (hb : PPE X b tb Tb) (hm : behindInMarks op b = false) : PPE X (.Compare a [op] [b] pos) (tOp r ta tb) (pOp f Ta Tb) := ⟨pe_cmpR hc.op ha.pe hb.pe hm, snd_op hc.pp ha.snd hb.snd⟩
def pTest (T : TEp) : TTp := fun ρ Q => T ρ fun x ρ' => match x with | .bl k => Q k ρ' | _ => False
theorem snd_test {K : PySem.W.Frag} {t : TE} {T : TEp} (h : SndE K t T) : SndT K (tTest t) (pTest T) := fun G F H σ ρ Q R S hT k => h G F H σ ρ _ _ S hT fun v d F' H' ρ' u S' r q => by
  cases r with
  | bl b => exact ⟨b, rfl, k b F' H' ρ' u S' q⟩
  | _ => exact q.elim
theorem ppt_cmp {op : CmpOp} {r : R2} {f : F2} (hc : Cmp X op r f) (ha : PPE X a ta Ta) (hb : PPE X b tb Tb) (hm : behindInMarks op b = false) : PPT X (.Compare a [op] [b] pos) (tTest (tOp r ta tb)) (pTest (pOp f Ta Tb)) := ⟨pt_cmpR hc.op ha.pe hb.pe hm, snd_test (snd_op hc.pp ha.snd hb.snd)⟩
theorem ppt_val {e : Expr} {t : TE} {T : TEp} (h : PPE X e t T) (he : ∀ whole, isTrue e X.env whole = (do let v ← whole; standAt e.pos; holding [v] (truthy v)) := by intro _; rfl) : PPT X e (tB t) (pTest T) := ⟨pt_val h.pe he, snd_test h.snd⟩
def pChain (f g : F2) (Ta Tb Tc : TEp) : TEp := fun ρ Q => Ta ρ fun x ρ1 => Tb ρ1 fun y ρ2 => f x y fun z => match z with
  | .bl k => if k = true then Tc ρ2 fun w ρ3 => g y w fun z => Q z ρ3 else Q (.bl false) ρ2
  | _ => False
theorem snd_chain {K : PySem.W.Frag} {r r' : R2} {f g : F2} (hp : OpP K r f) (hq : OpP K r' g) (ha : SndE K ta Ta) (hb : SndE K tb Tb) (hc : SndE K tc Tc) : SndE K (tChain r r' ta tb tc) (pChain f g Ta Tb Tc) := fun G F H σ ρ Q R S hT k =>
  ha G F H σ ρ _ _ S hT fun x dx F1 H1 ρ1 u1 S1 r1 h1 => hb G F1 H1 σ ρ1 _ _ S1 h1 fun y dy F2 H2 ρ2 u2 S2 r2 h2 =>
    hp F2 H2 x y dx dy _ _ S2.hF (r1.mono u2.ex) r2 h2 fun v d F3 H3 res q => by
      obtain ⟨u3, S3, r3⟩ := S2.res res
      cases r3 with
      | bl b =>
        refine ⟨b, rfl, ?_⟩
        cases b with
        | true =>
          have q := ite_t q
          refine ite_ti ?_
          refine hc G F3 H3 σ ρ2 _ _ S3 q fun w dw F4 H4 ρ4 u4 S4 r4 h4 => hq F4 H4 y w dy dw _ _ S4.hF ((r2.mono u3.ex).mono u4.ex) r4 h4 fun v d F5 H5 res5 q5 => ?_
          obtain ⟨u5, S5, r5⟩ := S4.res res5
          exact k v d F5 H5 ρ4 ((((u1.trans u2).trans u3).trans u4).trans u5) S5 r5 q5
        | false =>
          have q := ite_f q
          refine ite_fi ?_
          exact k _ _ F3 H3 ρ2 ((u1.trans u2).trans u3) S3 (.bl _) q
      | _ => exact q.elim
theorem ppt_chain {op op' : CmpOp} {r r' : R2} {f g : F2} (h1 : Cmp X op r f) (h2 : Cmp X op' r' g) (ha : PPE X a ta Ta) (hb : PPE X b tb Tb) (hc : PPE X c tc Tc) (hm : lastMarks [op, op'] [b, c] = false := by with_unfolding_all rfl) :
    PPT X (.Compare a [op, op'] [b, c] pos) (tTest (tChain r r' ta tb tc)) (pTest (pChain f g Ta Tb Tc)) := ⟨pt_chain h1.op h2.op ha.pe hb.pe hc.pe hm, snd_test (snd_chain h1.pp h2.pp ha.snd hb.snd hc.snd)⟩
variable {tA tB' : TT} {TA' TB' : TTp} {rest : List Expr}
def pAnd (T U : TTp) : TTp := fun ρ Q => T ρ fun c ρ1 => if c = true then U ρ1 Q else Q false ρ1
def pOr (T U : TTp) : TTp := fun ρ Q => T ρ fun c ρ1 => if c = true then Q true ρ1 else U ρ1 Q
def pNot (T : TTp) : TTp := fun ρ Q => T ρ fun c ρ1 => Q (!c) ρ1
theorem ppw_and1 (ha : PPT X a tA TA') : PPW X (.BoolOp .And [a] pos) tA TA' := ⟨pw_and1 ha.pt, ha.snd⟩
theorem ppw_or1 (ha : PPT X a tA TA') : PPW X (.BoolOp .Or [a] pos) tA TA' := ⟨pw_or1 ha.pt, ha.snd⟩
theorem ppw_and (ha : PPT X a tA TA') (hb : PPW X (.BoolOp .And (b :: rest) pos) tB' TB') : PPW X (.BoolOp .And (a :: b :: rest) pos) (tAnd tA tB') (pAnd TA' TB') := ⟨pw_and ha.pt hb.pw, fun G F H σ ρ Q R S hT k =>
  ha.snd G F H σ ρ _ _ S hT fun c F1 H1 ρ1 u1 S1 h1 => by
    cases c with
    | true => have h1 := ite_t h1; refine ite_ti ?_; exact hb.snd G F1 H1 σ ρ1 _ _ S1 h1 fun b F2 H2 ρ2 u2 S2 h2 => k b F2 H2 ρ2 (u1.trans u2) S2 h2
    | false => have h1 := ite_f h1; refine ite_fi ?_; exact k _ F1 H1 ρ1 u1 S1 h1⟩
theorem ppw_or (ha : PPT X a tA TA') (hb : PPW X (.BoolOp .Or (b :: rest) pos) tB' TB') : PPW X (.BoolOp .Or (a :: b :: rest) pos) (tOr tA tB') (pOr TA' TB') := ⟨pw_or ha.pt hb.pw, fun G F H σ ρ Q R S hT k =>
  ha.snd G F H σ ρ _ _ S hT fun c F1 H1 ρ1 u1 S1 h1 => by
    cases c with
    | false => have h1 := ite_f h1; refine ite_fi ?_; exact hb.snd G F1 H1 σ ρ1 _ _ S1 h1 fun b F2 H2 ρ2 u2 S2 h2 => k b F2 H2 ρ2 (u1.trans u2) S2 h2
    | true => have h1 := ite_t h1; refine ite_ti ?_; exact k _ F1 H1 ρ1 u1 S1 h1⟩
theorem PPW.ppt {e : Expr} {t : TT} {T : TTp} (h : PPW X e t T) : PPT X e t T := ⟨h.pw.pt, h.snd⟩
theorem ppt_not (ha : PPT X a tA TA') : PPT X (.UnaryOp .Not a pos) (tNot tA) (pNot TA') := ⟨pt_not ha.pt, fun G F H σ ρ Q R S hT k => ha.snd G F H σ ρ _ _ S hT fun c F1 H1 ρ1 u1 S1 h1 => k _ F1 H1 ρ1 u1 S1 h1⟩
def pAndV (Ta Tb : TEp) : TEp := fun ρ Q => Ta ρ fun x ρ1 => match x with | .bl c => if c = true then Tb ρ1 Q else Q (.bl false) ρ1 | _ => False
def pNotV (Ta : TEp) : TEp := fun ρ Q => Ta ρ fun x ρ1 => match x with | .bl c => Q (.bl (!c)) ρ1 | _ => False
theorem ppe_one {op} (h : PPE X a ta Ta) : PPE X (.BoolOp op [a] pos) ta Ta := ⟨pe_one h.pe, h.snd⟩
theorem ppe_and (ha : PPE X a ta Ta) (hb : PPE X (.BoolOp .And (b :: rest) pos) tb Tb) : PPE X (.BoolOp .And (a :: b :: rest) pos) (tAndV ta tb) (pAndV Ta Tb) := ⟨pe_and ha.pe hb.pe, fun G F H σ ρ Q R S hT k =>
  ha.snd G F H σ ρ _ _ S hT fun x dx F1 H1 ρ1 u1 S1 r1 h1 => by
    cases r1 with
    | bl c =>
      refine ⟨c, rfl, ?_⟩
      cases c with
      | true => have h1 := ite_t h1; refine ite_ti ?_; exact hb.snd G F1 H1 σ ρ1 _ _ S1 h1 fun v d F2 H2 ρ2 u2 S2 r2 h2 => k v d F2 H2 ρ2 (u1.trans u2) S2 r2 h2
      | false => have h1 := ite_f h1; refine ite_fi ?_; exact k _ _ F1 H1 ρ1 u1 S1 (.bl _) h1
    | _ => exact h1.elim⟩
theorem ppe_not (ha : PPE X a ta Ta) : PPE X (.UnaryOp .Not a pos) (tNotV ta) (pNotV Ta) := ⟨pe_not ha.pe, fun G F H σ ρ Q R S hT k =>
  ha.snd G F H σ ρ _ _ S hT fun x dx F1 H1 ρ1 u1 S1 r1 h1 => by
    cases r1 with
    | bl c => exact ⟨c, rfl, k _ _ F1 H1 ρ1 u1 S1 (.bl _) h1⟩
    | _ => exact h1.elim⟩
def pIf (T : TTp) (Ta Tb : TEp) : TEp := fun ρ Q => T ρ fun c ρ1 => if c = true then Ta ρ1 Q else Tb ρ1 Q
theorem ppe_ifExp {c : Expr} (hc : PPT X c tA TA') (ha : PPE X a ta Ta) (hb : PPE X b tb Tb) : PPE X (.IfExp c a b pos) (tIf tA ta tb) (pIf TA' Ta Tb) := ⟨pe_ifExp hc.pt ha.pe hb.pe, fun G F H σ ρ Q R S hT k =>
  hc.snd G F H σ ρ _ _ S hT fun c F1 H1 ρ1 u1 S1 h1 => by
    cases c with
    | true => have h1 := ite_t h1; refine ite_ti ?_; exact ha.snd G F1 H1 σ ρ1 _ _ S1 h1 fun v d F2 H2 ρ2 u2 S2 r2 h2 => k v d F2 H2 ρ2 (u1.trans u2) S2 r2 h2
    | false => have h1 := ite_f h1; refine ite_fi ?_; exact hb.snd G F1 H1 σ ρ1 _ _ S1 h1 fun v d F2 H2 ρ2 u2 S2 r2 h2 => k v d F2 H2 ρ2 (u1.trans u2) S2 r2 h2⟩
variable {e : Expr} {es : List Expr} {te : TE} {Te : TEp} {t : TA} {T : TAp}
def pNil : TAp := fun ρ Q => Q [] ρ
def pCons (Ta : TEp) (Tr : TAp) : TAp := fun ρ Q => Ta ρ fun x ρ1 => Tr ρ1 fun xs ρ2 => Q (x :: xs) ρ2
theorem ppa_nil : PPA X [] tNil pNil := ⟨pa_nil, fun G F H σ ρ Q R S hT k => k _ _ F H ρ (.refl _ _) S .nil hT⟩
theorem ppa_cons (ha : PPE X e te Te) (hr : PPA X es t T) (hs : starEach (e :: es) X.env = (false, eval e X.env) :: starEach es X.env := by rfl) : PPA X (e :: es) (tCons te t) (pCons Te T) := ⟨pa_cons ha.pe hr.pa hs, fun G F H σ ρ Q R S hT k =>
  ha.snd G F H σ ρ _ _ S hT fun v d F1 H1 ρ1 u1 S1 r1 h1 => hr.snd G F1 H1 σ ρ1 _ _ S1 h1 fun vs ds F2 H2 ρ2 u2 S2 r2 h2 => k _ _ F2 H2 ρ2 (u1.trans u2) S2 (.cons (r1.mono u2.ex) r2) h2⟩
def pTup (T : TAp) : TEp := fun ρ Q => T ρ fun xs ρ1 => xs.length ≤ sizeLine ∧ Q (.tup xs) ρ1
theorem ppe_tup {x1} (h : PPA X es t T) : PPE X (.Tuple es x1 pos) (tTup t) (pTup T) := ⟨pe_tup h.pa, fun G F H σ ρ Q R S hT k =>
  h.snd G F H σ ρ _ _ S hT fun vs ds F1 H1 ρ1 u1 S1 r1 h1 => ⟨by rw [r1.length]; exact h1.1, fun p hp => k _ _ _ _ ρ1 (u1.trans (S1.upNew hp)) (S1.new hp) (.tup upd_same (r1.mono (same_new (S1.freshF hp)))) h1.2⟩⟩
def pLst (T : TAp) : TEp := fun ρ Q => T ρ fun xs ρ1 => xs.length ≤ sizeLine ∧ Q (.lst xs) ρ1
theorem ppe_lst (h : PPA X es t T) : PPE X (.List es pos) (tLst t) (pLst T) := ⟨pe_lst h.pa, fun G F H σ ρ Q R S hT k =>
  h.snd G F H σ ρ _ _ S hT fun vs ds F1 H1 ρ1 u1 S1 r1 h1 => ⟨by rw [r1.length]; exact h1.1, fun p hp => k _ _ _ _ ρ1 (u1.trans (S1.upNew hp)) (S1.new hp) (.lst upd_same (r1.mono (same_new (S1.freshF hp)))) h1.2⟩⟩
def pLstO (T : TAp) : TCp := fun ρ Q => T ρ fun xs ρ1 => xs.length ≤ sizeLine ∧ ∀ a, Q (.own a xs) ρ1
theorem Sim.newOwn {K : PySem.W.Frag} {G F H : Hp} {σ : L2.St} {ρ : Ro} (S : Sim K G F H σ ρ) {p : Addr} {vs : List V} {xs : List D} (h : H p = none) (r : Reps K F vs xs) : Sim K G F (upd H p (.lst vs)) (σ ++ [some (.ref p)]) (ρ ++ [some (.own p xs)]) :=
  (S.more h).pushOwn upd_same (S.freshF h) (S.freshG h) (S.notOwn h) r
theorem ppc_lst (h : PPA X es t T) : PPC X (.List es pos) (tLst t) (pLstO T) := ⟨pe_lst h.pa, fun G F H σ ρ Q R S hT k =>
  h.snd G F H σ ρ _ _ S hT fun vs ds F1 H1 ρ1 u1 S1 r1 h1 => ⟨by rw [r1.length]; exact h1.1, fun p hp => k _ _ _ _ ρ1 u1 (S1.newOwn hp r1) (h1.2 p)⟩⟩
def pCB (f : List D → (D → Prop) → Prop) (T : TAp) : TEp := fun ρ Q => T ρ fun xs ρ1 => f xs fun z => Q z ρ1
theorem snd_cb {K : PySem.W.Frag} {r : List V → Hp → VK → Prop} {f : List D → (D → Prop) → Prop} (hp : CallP K r f) (h : SndA K t T) : SndE K (tCB r t) (pCB f T) := fun G F H σ ρ Q R S hT k =>
  h G F H σ ρ _ _ S hT fun vs ds F1 H1 ρ1 u1 S1 r1 h1 => hp F1 H1 vs ds _ _ S1.hF r1 h1 fun v d F2 H2 res q => by
    obtain ⟨u2, S2, r2⟩ := S1.res res
    exact k v d F2 H2 ρ1 (u1.trans u2) S2 r2 q
theorem ppe_callB {x : Str} {p : Pos} {id : String} {r : List V → Hp → VK → Prop} {f : List D → (D → Prop) → Prop} (hc : CallR X (.builtin id) r) (hp : CallP X.K r f) (hg : Gl X x) (hm : X.mg x = none) (hv : bootBuiltins x = some (.builtin id)) (ha : PPA X (e :: es) t T)
    (hn : x ≠ "__name__" := by decide) (hdb : (x == ("__debug__" : Str)) = false := by decide)
    (he : starEach (e :: es) X.env = (false, eval e X.env) :: starEach es X.env := by rfl) (hpl : (backTo pos (starEach es X.env)).any (·.1) = false := by rfl) : PPE X (.Call (.Name x p) (e :: es) [] pos) (tCB r t) (pCB f T) := ⟨pe_callB hc hg hm hv ha.pa hn hdb he hpl, snd_cb hp ha.snd⟩
theorem ppe_callTy {x : Str} {p : Pos} {id : String} {r : List V → Hp → VK → Prop} {f : List D → (D → Prop) → Prop} (hc : CallR X (.type id) r) (hp : CallP X.K r f) (hg : Gl X x) (hm : X.mg x = none) (hv : bootBuiltins x = some (.type id)) (ha : PPA X (e :: es) t T)
    (hn : x ≠ "__name__" := by decide) (hdb : (x == ("__debug__" : Str)) = false := by decide)
    (he : starEach (e :: es) X.env = (false, eval e X.env) :: starEach es X.env := by rfl) (hpl : (backTo pos (starEach es X.env)).any (·.1) = false := by rfl) : PPE X (.Call (.Name x p) (e :: es) [] pos) (tCB r t) (pCB f T) := ⟨pe_callTy hc hg hm hv ha.pa hn hdb he hpl, snd_cb hp ha.snd⟩
end
end Pl
namespace Pl
open PySem PySem.Spec PyProof.Rows L2
open PySem.W (AlikeAll minD maxD minD_ints maxD_ints min_list_data min_tuple_data max_list_data max_tuple_data min_list_default max_list_default)
theorem places_rev (n : Nat) : Builtin.Slice.slicePlaces ((n : Int) - 1) (-1) (-1) = n := by
  unfold Builtin.Slice.slicePlaces
  by_cases h : n = 0
  · subst h; rfl
  · first
    | (simp; omega)
    | (simp only [show ¬ ((-1 : Int) > 0) by decide, if_false]; split <;> omega)
theorem adjust_rev (n : Nat) : Builtin.Slice.sliceAdjust none none (-1) (n : Int) = ((n : Int) - 1, -1) := by
  first
  | rfl
  | simp [Builtin.Slice.sliceAdjust]
theorem pick_rev (xs : Array Value) : ((List.range xs.size).filterMap fun (m : Nat) => xs[(((xs.size : Int) - 1) + (m : Int) * (-1)).toNat]?).toArray = xs.toList.reverse.toArray := by
  have e : ((List.range xs.size).filterMap fun (m : Nat) => xs[(((xs.size : Int) - 1) + (m : Int) * (-1)).toNat]?) = ((List.range xs.size).map fun k => xs.size - 1 - k).filterMap (xs[·]?) := by
    rw [List.filterMap_map]
    have g : ∀ l : List Nat, (l.filterMap fun (m : Nat) => xs[(((xs.size : Int) - 1) + (m : Int) * (-1)).toNat]?) = l.filterMap ((fun x => xs[x]?) ∘ fun k => xs.size - 1 - k) := fun l => by
      congr 1
      funext m
      show xs[(((xs.size : Int) - 1) + (m : Int) * (-1)).toNat]? = xs[xs.size - 1 - m]?
      rw [show (((xs.size : Int) - 1) + (m : Int) * (-1)).toNat = xs.size - 1 - m by omega]
    exact g _
  rw [e, PySem.W.krv_range, List.filterMap_reverse, PySem.W.krv_all]
section
variable {prog : Program} {w : World} {A : Around} {E : Value → Shared → Prop} {s : Shared}
theorem getItem_tuple_rev {t sl : Addr} {items : Array Value} {vl vu vs : Value} {Q : Value → Shared → Prop} (ht : IsTup s.heap t items) (hs : s.heap.IsSliceOf sl vl vu vs) (pl : IsPart vl none) (pu : IsPart vu none) (ps : IsPart vs (some (-1)))
    (h : Q (.ref s.heap.objs.size) { s with heap := s.heap.push { cls := .type "tuple", data := .seq items.toList.reverse.toArray } })
    (hsz : items.size ≤ sizeLine) : wpAny (model prog w) A (getItem (.ref t) (.ref sl)) Q E s := by
  have htake : sizeOk (.seq items.toList.reverse.toArray) := by
    show items.toList.reverse.toArray.size ≤ sizeLine
    rw [List.size_toArray, List.length_reverse, Array.length_toList]
    omega
  obtain ⟨os, hos, hcs, hds⟩ := id hs
  have hTs : s.TypeIs (.ref sl) "slice" := ⟨os, hos, hcs⟩
  unfold getItem
  try with_reducible refine wpAny_holding ?_
  first | refine wpAny_bind (wpAny_pure ?_) | skip
  refine wpAny_bind (wpAny_sequenceKey ht.typeIs (by decide) ?_)
  refine wpAny_bind (wpAny_callSpecial?_slot (name := Str.ofString "__getitem__") ht.typeIs PyProof.Rows.slot_tuple_getitem
    (wpAny_call_entry PyProof.Rows.slot_tuple_getitem ht.typeIs entry_tuple_getitem ?_ (args_tuple_getitem _ _)))
  show wpAny _ _ (Builtin.Tuple.tupleItemsOf (.ref t) >>= _) _ _ s
  refine wpAny_bind (tupleItemsOf_ ht ?_)
  refine wpAny_bind (wpAny_typeOf hTs ?_)
  rw [if_pos (by decide)]
  have applied : ∀ {Q : Int × Int × Nat → Shared → Prop} {A' : Around} {E' : Value → Shared → Prop}, Q ((items.size : Int) - 1, -1, items.size) s → wpAny (model prog w) A' (Builtin.Slice.sliceApplied (.ref sl) (pure (items.size : Int))) Q E' s := by
    intro Q A' E' h
    unfold Builtin.Slice.sliceApplied Builtin.Slice.sliceFields
    refine wpAny_bind (wpAny_bind (wpAny_field hos hds (x := vl) rfl (wpAny_bind (wpAny_field hos hds (x := vu) rfl (wpAny_bind (wpAny_field hos hds (x := vs) rfl (wpAny_pure ?_)))))))
    refine wpAny_bind (HT.slicePart_ ps ?_)
    show wpAny _ _ (if ((-1 : Int) == 0) = true then _ else _) _ _ s
    rw [if_neg (by decide)]
    refine wpAny_bind (HT.slicePart_ pl (wpAny_bind (HT.slicePart_ pu (wpAny_bind (wpAny_pure ?_)))))
    show wpAny _ _ (match Builtin.Slice.sliceAdjust none none (-1) (items.size : Int) with | (lo, hi) => pure (lo, (-1 : Int), Builtin.Slice.slicePlaces lo hi (-1))) _ _ s
    rw [adjust_rev]
    show wpAny _ _ (pure ((items.size : Int) - 1, (-1 : Int), Builtin.Slice.slicePlaces ((items.size : Int) - 1) (-1) (-1))) _ _ s
    rw [places_rev]
    exact wpAny_pure h
  refine wpAny_bind (applied ?_)
  have hno : ¬ ((((items.size : Int) - 1) == 0 && (-1 : Int) == 1 && items.size == items.size) = true) := by
    intro q
    rw [Bool.and_eq_true, Bool.and_eq_true] at q
    exact absurd q.1.2 (by decide)
  show wpAny _ _ (if (((items.size : Int) - 1) == 0 && (-1 : Int) == 1 && items.size == items.size) = true then _ else _) _ _ s
  rw [if_neg hno, pick_rev]
  first
    | exact wpAny_bind (m := Builtin.Tuple.tupleExact _) (wpAny_newObj_type (wpAny_pure ⟨_, rfl, wpAny_pure h⟩) htake)
    | exact wpAny_bind (m := Builtin.Tuple.tupleExact _) (wpAny_newObj_type (wpAny_bind (wpAny_pure (wpAny_pure ⟨_, rfl, wpAny_pure h⟩))) htake)
    | exact wpAny_bind (wpAny_bind (m := Builtin.Tuple.tupleExact _) (wpAny_newObj_type (wpAny_pure (wpAny_pure ⟨_, rfl, wpAny_pure h⟩)) htake))
    | exact wpAny_bind (wpAny_bind (m := Builtin.Tuple.tupleExact _) (wpAny_newObj_type (wpAny_pure ⟨_, rfl, wpAny_pure h⟩) htake))
end
section
variable {X : Cx}
def tRevA (K : PySem.W.Frag) (te : TE) : TE := fun σ H Q => te σ H fun x H1 => ∃ a xs, x = .ref a ∧ ((SqL K H1 a xs ∧ ∀ p, H1 p = none → Q (.ref p) (upd H1 p (.lst xs.reverse))) ∨ (SqT K H1 a xs ∧ ∀ p, H1 p = none → Q (.ref p) (upd H1 p (.tup xs.reverse))))
theorem pe_revA {e : Expr} {te : TE} {k : Nat} {p1 p2 p3 pos : Pos} (he : PE X e te) : PE X (.Subscript e (.Slice none none (some (.UnaryOp .USub (.Constant (.int 1) k p1) p2)) p3) pos) (tRevA X.K te) := by
  refine ⟨fun pins s σ H Q I h => ?_⟩
  refine Subscript_ (thn (he.run pins s σ H _ I h) fun v s1 ⟨x, H1, I1, r1, q1⟩ => ?_)
  obtain ⟨a, xs, ex, hx⟩ := q1
  subst ex
  cases r1
  have hst : PO X (some (.UnaryOp .USub (.Constant (.int 1) k p1) p2)) (tPart (tUn (rU fun i => .int (-i)) (tC (.int 1)))) := po_some (pe_un un_neg pe_int)
  refine wpAny_Slice (thn (po_none.run pins s1 σ H1 (fun o H2 => o = none ∧ H2 = H1) I1 ⟨rfl, rfl⟩) fun vl s2 ⟨l, H2, I2, pl, el, e2⟩ => ?_)
  subst el e2
  refine thn (po_none.run pins s2 σ H2 (fun o H3 => o = none ∧ H3 = H2) I2 ⟨rfl, rfl⟩) fun vu s3 ⟨u, H3, I3, pu, eu, e3⟩ => ?_
  subst eu e3
  refine thn (hst.run pins s3 σ H3 (fun o H4 => o = some (-1) ∧ H4 = H3) I3 ⟨1, rfl, -1, rfl, rfl, rfl⟩) fun vs s4 ⟨o, H4, I4, ps, eo, e4⟩ => ?_
  subst eo e4
  have I5 : Inv X pins σ H4 { s4 with heap := s4.heap.push { cls := .type "slice", data := .fields #[vl, vu, vs] } } := I4.kept (t' := s4.toks) fun b ob q => Heap.get?_push_of_some _ q
  show wpAny (model X.prog X.w) X.A (subscriptTail e (.Slice none none (some (.UnaryOp .USub (.Constant (.int 1) k p1) p2)) p3) (.ref a) (.ref s4.heap.objs.size)) (EP X pins σ Q) X.xe { s4 with heap := s4.heap.push { cls := .type "slice", data := .fields #[vl, vu, vs] } }
  rcases hx with ⟨hx, q⟩ | ⟨hx, q⟩
  · obtain ⟨its, r, ht, hz⟩ := I5.list hx
    have hlen := r.length
    refine tail_any (ops := [.ref a, .ref s4.heap.objs.size]) ht.isList.typeIs (PySem.slot_list_getitem.lookup) ?_ (by with_unfolding_all rfl)
    refine wpAny_getItem_list_slice ht.isList (Heap.IsSliceOf.new _ vl vu vs) pl pu ps (by decide) ?_ (by rw [List.size_toArray]; omega)
    rw [PySem.W.krv_pick]
    refine ⟨.ref _, _, I5.laid (t' := s4.toks) (o := .lst xs.reverse) (fun b ob q => Heap.get?_push_of_some _ q) (Nat.le_refl _) ?_, rfl, q _ (I5.hok.fresh (Nat.le_refl _))⟩
    exact ⟨by rw [List.length_reverse]; exact hz, _, 0, r.reverse, Heap.get?_push_size _ rfl⟩
  · obtain ⟨its, r, ht, hz⟩ := I5.tuple hx
    have hlen := r.length
    refine tail_any (ops := [.ref a, .ref s4.heap.objs.size]) ht.typeIs (PyProof.Rows.slot_tuple_getitem.lookup) ?_ (by with_unfolding_all rfl)
    refine getItem_tuple_rev ht (Heap.IsSliceOf.new _ vl vu vs) pl pu ps ?_ (by rw [List.size_toArray]; omega)
    refine ⟨.ref _, _, I5.laid (t' := s4.toks) (o := .tup xs.reverse) (fun b ob q => Heap.get?_push_of_some _ q) (Nat.le_refl _) ?_, rfl, q _ (I5.hok.fresh (Nat.le_refl _))⟩
    exact ⟨by rw [List.length_reverse]; exact hz, _, r.reverse, ⟨_, Heap.get?_push_size _ rfl, rfl, _, rfl⟩⟩
theorem alike_ints (ns : List Int) : AlikeAll (ns.map PyData.int) := ⟨fun x hx y hy => by
  obtain ⟨i, _, rfl⟩ := List.mem_map.mp hx
  obtain ⟨j, _, rfl⟩ := List.mem_map.mp hy
  rfl, fun x hx => by
  obtain ⟨i, _, rfl⟩ := List.mem_map.mp hx
  simp⟩
theorem depth_ints : ∀ ns : List Int, PyData.depthAll (ns.map PyData.int) = 0
  | [] => rfl
  | n :: ns => by
    show max (PyData.depth (.int n)) (PyData.depthAll (ns.map PyData.int)) = 0
    rw [depth_ints ns]; rfl
theorem reads_vals {h : Heap} : ∀ {ns : List Int} {us : List Value}, Vals (ns.map V.int) us → ∃ as, ReadsAll h us (ns.map PyData.int) as
  | [], _, .nil => ⟨_, .nil⟩
  | n :: ns, _, .cons r t => by
    obtain ⟨tk, rfl⟩ := r
    obtain ⟨as, q⟩ := reads_vals (h := h) t
    exact ⟨_, .cons (.int _ _) q⟩
theorem reads_int {h : Heap} {v : Value} {n : Int} {bs : List Addr} (r : Reads h v (.int n) bs) : ∃ t, v = .int n t := by
  cases r; exact ⟨_, rfl⟩
def bestD (g : Int → Int → Int) (d : V) : List Int → V
  | [] => d
  | n :: ns => .int (ns.foldl g n)
def tDflt (K : PySem.W.Frag) (g : Int → Int → Int) (te td : TE) : TE := fun σ H Q => te σ H fun x H1 => td σ H1 fun d H2 => ∃ a ns, x = .ref a ∧ SqL K H2 a (ns.map V.int) ∧ Q (bestD g d ns) H2
theorem pe_maxDflt {e d : Expr} {te td : TE} {p pos kp : Pos} (hg : Gl X "max") (hm : X.mg "max" = none) (hc : X.calm = true) (hu : X.A.units + 64 < cLine) (he : PE X e te) (hd : PE X d td)
    (hs : starEach [e] X.env = [(false, eval e X.env)] := by rfl) :
    PE X (.Call (.Name "max" p) [e] [⟨some "default", d, kp⟩] pos) (tDflt X.K max te td) := by
  refine ⟨fun pins s σ H Q I h => ?_⟩
  refine wpAny_Call_Name_kw (ld_blt (u := .builtin "max") I hg hm (by decide +kernel) ?_)
  refine callWith_kw (id := "max") ?_ (by rw [hs]; rfl) (by rw [hs]; rfl)
  have ha : PA X [e] (tCons te tNil) := pa_cons he pa_nil (by rw [hs]; rfl)
  have hk : PK X [⟨some "default", d, kp⟩] (tCons td tNil) := pk_cons hd pk_nil
  refine thn (ha.run pos pins s σ H (fun vs H1 => td σ H1 fun d H2 => ∃ a ns, vs = [.ref a] ∧ SqL X.K H2 a (ns.map V.int) ∧ Q (bestD max d ns) H2) I ?_) fun us s1 ⟨vs, H1, I1, r1, q1⟩ => ?_
  · show te σ H _
    have e : (fun (x : V) (H1 : Hp) => tNil σ H1 fun xs H2 => td σ H2 fun d H3 => ∃ a ns, (x :: xs) = [V.ref a] ∧ SqL X.K H3 a (ns.map V.int) ∧ Q (bestD max d ns) H3) = fun (x : V) (H1 : Hp) => td σ H1 fun d H2 => ∃ a ns, x = .ref a ∧ SqL X.K H2 a (ns.map V.int) ∧ Q (bestD max d ns) H2 := by
      funext x H1
      show (td σ H1 fun d H3 => ∃ a ns, [x] = [V.ref a] ∧ SqL X.K H3 a (ns.map V.int) ∧ Q (bestD max d ns) H3) = _
      congr 1
      funext d H3
      simp
    rw [e]
    exact h
  · refine thn (hk.run pos pins s1 σ H1 (fun zs H2 => ∃ d a ns, zs = [d] ∧ vs = [.ref a] ∧ SqL X.K H2 a (ns.map V.int) ∧ Q (bestD max d ns) H2) I1 ?_) fun ws s2 ⟨zs, H2, I2, r2, q2⟩ => ?_
    · show td σ H1 _
      have e : (fun (x : V) (H2 : Hp) => tNil σ H2 fun xs H3 => ∃ d a ns, (x :: xs) = [d] ∧ vs = [V.ref a] ∧ SqL X.K H3 a (ns.map V.int) ∧ Q (bestD max d ns) H3) = fun (d : V) (H2 : Hp) => ∃ a ns, vs = [V.ref a] ∧ SqL X.K H2 a (ns.map V.int) ∧ Q (bestD max d ns) H2 := by
        funext x H2
        show (∃ d a ns, [x] = [d] ∧ vs = [V.ref a] ∧ SqL X.K H2 a (ns.map V.int) ∧ Q (bestD max d ns) H2) = _
        simp
      rw [e]
      exact q1
    · obtain ⟨d, a, ns, rfl, rfl, hL, q⟩ := q2
      obtain ⟨w, rfl, rw'⟩ := vals1 r2
      rw [Vals.ref1 r1]
      obtain ⟨its, rv, hl, _⟩ := I2.list hL
      obtain ⟨as, ra⟩ := reads_vals (h := s2.heap) rv
      refine max_list_default (I2.ok.hd hc) hl.isList ra (alike_ints ns) (by rw [depth_ints]; omega) (fun e h' tk k => ?_) fun y ys i v h' tk bs e _ r k => ?_
      · have e' : ns = [] := by cases ns with | nil => rfl | cons _ _ => cases e
        subst e'
        exact ⟨d, H2, I2.kept k, rw', q⟩
      · cases ns with
        | nil => cases e
        | cons n ns =>
          cases e
          rw [maxD_ints] at r
          obtain ⟨t, rfl⟩ := reads_int r
          exact ⟨.int _, H2, I2.kept k, ⟨_, rfl⟩, q⟩
theorem pe_minDflt {e d : Expr} {te td : TE} {p pos kp : Pos} (hg : Gl X "min") (hm : X.mg "min" = none) (hc : X.calm = true) (hu : X.A.units + 64 < cLine) (he : PE X e te) (hd : PE X d td)
    (hs : starEach [e] X.env = [(false, eval e X.env)] := by rfl) :
    PE X (.Call (.Name "min" p) [e] [⟨some "default", d, kp⟩] pos) (tDflt X.K min te td) := by
  refine ⟨fun pins s σ H Q I h => ?_⟩
  refine wpAny_Call_Name_kw (ld_blt (u := .builtin "min") I hg hm (by decide +kernel) ?_)
  refine callWith_kw (id := "min") ?_ (by rw [hs]; rfl) (by rw [hs]; rfl)
  have ha : PA X [e] (tCons te tNil) := pa_cons he pa_nil (by rw [hs]; rfl)
  have hk : PK X [⟨some "default", d, kp⟩] (tCons td tNil) := pk_cons hd pk_nil
  refine thn (ha.run pos pins s σ H (fun vs H1 => td σ H1 fun d H2 => ∃ a ns, vs = [.ref a] ∧ SqL X.K H2 a (ns.map V.int) ∧ Q (bestD min d ns) H2) I ?_) fun us s1 ⟨vs, H1, I1, r1, q1⟩ => ?_
  · show te σ H _
    have e : (fun (x : V) (H1 : Hp) => tNil σ H1 fun xs H2 => td σ H2 fun d H3 => ∃ a ns, (x :: xs) = [V.ref a] ∧ SqL X.K H3 a (ns.map V.int) ∧ Q (bestD min d ns) H3) = fun (x : V) (H1 : Hp) => td σ H1 fun d H2 => ∃ a ns, x = .ref a ∧ SqL X.K H2 a (ns.map V.int) ∧ Q (bestD min d ns) H2 := by
      funext x H1
      show (td σ H1 fun d H3 => ∃ a ns, [x] = [V.ref a] ∧ SqL X.K H3 a (ns.map V.int) ∧ Q (bestD min d ns) H3) = _
      congr 1
      funext d H3
      simp
    rw [e]
    exact h
  · refine thn (hk.run pos pins s1 σ H1 (fun zs H2 => ∃ d a ns, zs = [d] ∧ vs = [.ref a] ∧ SqL X.K H2 a (ns.map V.int) ∧ Q (bestD min d ns) H2) I1 ?_) fun ws s2 ⟨zs, H2, I2, r2, q2⟩ => ?_
    · show td σ H1 _
      have e : (fun (x : V) (H2 : Hp) => tNil σ H2 fun xs H3 => ∃ d a ns, (x :: xs) = [d] ∧ vs = [V.ref a] ∧ SqL X.K H3 a (ns.map V.int) ∧ Q (bestD min d ns) H3) = fun (d : V) (H2 : Hp) => ∃ a ns, vs = [V.ref a] ∧ SqL X.K H2 a (ns.map V.int) ∧ Q (bestD min d ns) H2 := by
        funext x H2
        show (∃ d a ns, [x] = [d] ∧ vs = [V.ref a] ∧ SqL X.K H2 a (ns.map V.int) ∧ Q (bestD min d ns) H2) = _
        simp
      rw [e]
      exact q1
    · obtain ⟨d, a, ns, rfl, rfl, hL, q⟩ := q2
      obtain ⟨w, rfl, rw'⟩ := vals1 r2
      rw [Vals.ref1 r1]
      obtain ⟨its, rv, hl, _⟩ := I2.list hL
      obtain ⟨as, ra⟩ := reads_vals (h := s2.heap) rv
      refine min_list_default (I2.ok.hd hc) hl.isList ra (alike_ints ns) (by rw [depth_ints]; omega) (fun e h' tk k => ?_) fun y ys i v h' tk bs e _ r k => ?_
      · have e' : ns = [] := by cases ns with | nil => rfl | cons _ _ => cases e
        subst e'
        exact ⟨d, H2, I2.kept k, rw', q⟩
      · cases ns with
        | nil => cases e
        | cons n ns =>
          cases e
          rw [minD_ints] at r
          obtain ⟨t, rfl⟩ := reads_int r
          exact ⟨.int _, H2, I2.kept k, ⟨_, rfl⟩, q⟩
end
end Pl
namespace Pl
open PySem PySem.Spec PyProof.Rows L2
def SqK (K : PySem.W.Frag) (k : Bool) (H : Hp) (a : Addr) (xs : List V) : Prop := match k with
  | true => SqL K H a xs
  | false => SqT K H a xs
def ItK (k : Bool) (h : Heap) (it a : Addr) (i : Nat) : Prop := match k with
  | true => h.IsListIter it a i
  | false => h.IsTupleIter it a i
def IsK (k : Bool) (h : Heap) (a : Addr) (items : Array Value) : Prop := match k with
  | true => h.IsList a items
  | false => h.IsTuple a items
def objK (k : Bool) (l : Addr) : Obj := match k with
  | true => { cls := .type "list_iterator", data := .fields #[.ref l, .int 0 0] }
  | false => { cls := .type "tuple_iterator", data := .fields #[.ref l, .int 0 0] }
theorem drawsK {prog : Program} {w : World} {A : Around} (hh : A.handled = none) (k : Bool) (it l : Addr) (hne : l ≠ it) (items : Array Value) :
    Draws prog w A it [it, l] items.size (fun i v => items[i]? = some v) (fun i h => ItK k h it l i ∧ IsK k h l items) := by
  cases k with
  | true => exact Draws.list hh it l hne items
  | false => exact Draws.tuple hh it l hne items
theorem beginsK (k : Bool) (l : Addr) (items : Array Value) : Begins (.ref l) (objK k l) fun h => IsK k h l items := by
  cases k with
  | true => exact begins_list l items
  | false => exact begins_tuple l items
theorem itK_new {k : Bool} {h : Heap} {it l : Addr} (e : h.get? it = some (objK k l)) : ItK k h it l 0 := by
  cases k with
  | true => exact ⟨_, e, rfl, rfl⟩
  | false => exact ⟨_, e, rfl, rfl⟩
theorem ItK.obj {k : Bool} {h : Heap} {it l : Addr} {i : Nat} (x : ItK k h it l i) : ∃ o, h.get? it = some o ∧ ∀ v, o.data ≠ .cell v := by
  cases k with
  | true => obtain ⟨o, e, _, d⟩ := x; exact ⟨o, e, fun v q => by rw [d] at q; cases q⟩
  | false => obtain ⟨o, e, _, d⟩ := x; exact ⟨o, e, fun v q => by rw [d] at q; cases q⟩
theorem ItK.at {k : Bool} {h h' : Heap} {it l : Addr} {i : Nat} (x : ItK k h it l i) (e : ∀ o, h.get? it = some o → h'.get? it = some o) : ItK k h' it l i := by
  cases k with
  | true => obtain ⟨o, q, r⟩ := x; exact ⟨o, e o q, r⟩
  | false => obtain ⟨o, q, r⟩ := x; exact ⟨o, e o q, r⟩
section
variable {X : Cx} {pins : List (Addr × Obj)} {σ : L2.St} {H : Hp} {s : Shared} {a : Addr} {xs ys : List V} {k : Bool}
theorem invK (I : Inv X pins σ H s) (h : SqK X.K k H a xs) : ∃ its : List Value, Vals xs its ∧ IsK k s.heap a its.toArray ∧ xs.length ≤ sizeLine ∧ a < s.heap.objs.size := by
  cases k with
  | true =>
    obtain ⟨its, r, p, z⟩ := I.list h
    exact ⟨its, r, p.isList, z, p.lt⟩
  | false =>
    obtain ⟨its, r, p, z⟩ := I.tuple h
    exact ⟨its, r, p, z, p.lt⟩
theorem invK_inj (I : Inv X pins σ H s) (h : SqK X.K k H a xs) (h' : SqK X.K k H a ys) : xs = ys := by
  cases k with
  | true => exact I.list_inj h h'
  | false => exact I.tuple_inj h h'
end
theorem SqK.mono {K : PySem.W.Frag} {k : Bool} {H H' : Hp} {a : Addr} {xs : List V} (e : Same H H') (h : SqK K k H a xs) : SqK K k H' a xs := by
  cases k with
  | true => exact e.seq h
  | false =>
    rcases h with (h | ⟨o, h⟩) | h
    · exact .inl (.inl (e _ _ h))
    · exact .inl (.inr ⟨o, e _ _ h⟩)
    · exact .inr h
theorem turn_goes {P : Program} {w : World} {K : PySem.W.Frag} {tg : Expr} {J : It} {fp : List Addr} {it : Addr} {tn : Nat → Heap → Prop}
    (mem : it ∈ fp) (obj : ∀ i h, tn i h → ∀ b ∈ fp, ∃ o, h.get? b = some o ∧ ∀ v, o.data ≠ .cell v) (keep : ∀ i h h', tn i h → (∀ b ∈ fp, ∀ o, h.get? b = some o → h'.get? b = some o) → tn i h')
    (go : ∀ (X : Cx), X.prog = P → X.w = w → X.K = K → X.calm = true → ∀ (i : Nat) (pins : List (Addr × Obj)) (s : Shared) (σ : L2.St) (H : Hp), Inv X pins σ H s → (∀ b ∈ fp, FpOk X pins H b) → tn i s.heap → (J.go i H ∨ J.stop i H) →
      ∃ (gfp wr : List Addr) (n : Nat) (Y : Nat → Heap → Value → Heap → Prop) (St : Nat → Heap → Prop), GoesN P w X.A tg it gfp wr n Y St ∧ St i s.heap ∧ (∀ b ∈ wr, b ∈ fp) ∧
        (J.go i H → i < n ∧ ∀ v h', Y i s.heap v h' → St (i + 1) h' → (∀ b o, b ∉ wr → s.heap.get? b = some o → h'.get? b = some o) →
          tn (i + 1) h' ∧ ∃ T ob, v = .ref T ∧ s.heap.objs.size ≤ T ∧ ObjOk P w (upd H T ob) h' T ob ∧ J.yld i H (.ref T) (upd H T ob)) ∧ (J.stop i H → i = n))
    (self : ∀ (A : Around) (i : Nat) (s : Shared) (Q : Value → Shared → Prop) (E : Value → Shared → Prop), tn i s.heap → Q (.ref it) s → wpAny (model P w) A (pyIter (.ref it)) Q E s) : Turn P w K tg J fp it tn where
  mem := mem
  obj := obj
  keep := keep
  item := by
    intro X hP hw hK hc i pins s σ H E I hf st hg
    obtain ⟨gfp, wr, n, Y, St, W, hst, hsub, h1, _⟩ := go X hP hw hK hc i pins s σ H I hf st (.inl hg)
    obtain ⟨hlt, h2⟩ := h1 hg
    subst hP hw hK
    refine W.goes i s (fun u s2 => ∃ x H', Inv X pins σ H' s2 ∧ RelV x u ∧ J.yld i H x H' ∧ tn (i + 1) s2.heap ∧ ∀ b ∈ fp, H' b = none) E hlt hst fun v h' tk hY st' hk _ => ?_
    obtain ⟨ht, T, ob, rfl, hT, new, yl⟩ := h2 v h' hY st' hk
    have I1 : Inv X pins σ (upd H T ob) { s with heap := h', toks := tk } := I.turnedNew (ch := wr) hk (fun b hb => hf b (hsub b hb)) hT new
    refine ⟨.ref T, _, I1, rfl, yl, ht, fun b hb => ?_⟩
    obtain ⟨o, e, _⟩ := obj i s.heap st b hb
    rw [upd_ne (Nat.ne_of_lt (Nat.lt_of_lt_of_le (Heap.lt_size e) hT))]
    exact (hf b hb).1
  done := by
    intro X hP hw hK hc i pins s σ H E I hf st hg
    obtain ⟨gfp, wr, n, Y, St, W, hst, hsub, _, h2⟩ := go X hP hw hK hc i pins s σ H I hf st (.inr hg)
    subst hP hw hK
    have e := h2 hg
    subst e
    refine W.stops s (fun s1 => Inv X pins σ H s1) E hst fun h' tk hk _ => ?_
    exact I.turnedL hk fun b hb => hf b (hsub b hb)
  self := self
theorem tup_ok {P : Program} {w : World} {H : Hp} {h : Heap} {T : Addr} {xs : List V} {us : List Value} (r : Vals xs us) (ht : h.IsTuple T us.toArray) (hz : xs.length ≤ sizeLine) : ObjOk P w (upd H T (.tup xs)) h T (.tup xs) := ⟨hz, us, r, ht⟩
def ItZ2 (K : PySem.W.Frag) (k1 : Bool) (a : Addr) (k2 : Bool) (b : Addr) : It :=
  ⟨fun i H => ∃ (xs ys : List V) (x y : V), SqK K k1 H a xs ∧ SqK K k2 H b ys ∧ xs[i]? = some x ∧ ys[i]? = some y,
    fun i H v H' => ∃ T x y, v = .ref T ∧ H T = none ∧ H' = upd H T (.tup [x, y]) ∧ (∀ xs, SqK K k1 H a xs → xs[i]? = some x) ∧ ∀ ys, SqK K k2 H b ys → ys[i]? = some y,
    fun i H => ∃ xs ys : List V, SqK K k1 H a xs ∧ SqK K k2 H b ys ∧ i = min xs.length ys.length⟩
theorem turn_z2 {P : Program} {w : World} {K : PySem.W.Frag} {elts : List Expr} {kk : Nat} {tpos : Pos} {k1 k2 : Bool} {a b z TI TO i1 i2 : Addr} (S : ZipSep2 z TI TO i1 i2 [i1, a] [i2, b]) (hia : a ≠ i1) (hib : b ≠ i2) :
    Turn P w K (.Tuple elts kk tpos) (ItZ2 K k1 a k2 b) [z, TI, TO, i1, i2] z (fun i h => IsZip h z TI TO .none ∧ IsTupOf2 h TI (.ref i1) (.ref i2) ∧ (∃ a1 a2, IsTupOf2 h TO a1 a2) ∧ ItK k1 h i1 a i ∧ ItK k2 h i2 b i) := by
  refine turn_goes (by simp) (fun i h st c hc => ?_) (fun i h h' st k => ?_) (fun X hP hw hK hc i pins s σ H I hf st hg => ?_) fun A i s Q E st h => wpAny_pyIter_zip st.1 h
  · obtain ⟨hz, hTI, ⟨x, y, hTO⟩, h1, h2⟩ := st
    have e' : c = z ∨ c = TI ∨ c = TO ∨ c = i1 ∨ c = i2 := by simpa using hc
    rcases e' with q | q | q | q | q
    · rw [q]; exact ⟨_, hz, fun v q => nomatch q⟩
    · rw [q]; exact ⟨_, hTI, fun v q => nomatch q⟩
    · rw [q]; exact ⟨_, hTO, fun v q => nomatch q⟩
    · rw [q]; exact h1.obj
    · rw [q]; exact h2.obj
  · obtain ⟨hz, hTI, ⟨x, y, hTO⟩, h1, h2⟩ := st
    exact ⟨k z (by simp) _ hz, k TI (by simp) _ hTI, ⟨x, y, k TO (by simp) _ hTO⟩, h1.at fun o q => k i1 (by simp) o q, h2.at fun o q => k i2 (by simp) o q⟩
  · subst hP hw hK
    obtain ⟨hz, hTI, hTO, h1, h2⟩ := st
    have src : ∃ xs ys, SqK X.K k1 H a xs ∧ SqK X.K k2 H b ys := by
      rcases hg with ⟨xs, ys, _, _, p, q, _⟩ | ⟨xs, ys, p, q, _⟩
      · exact ⟨xs, ys, p, q⟩
      · exact ⟨xs, ys, p, q⟩
    obtain ⟨xs, ys, sx, sy⟩ := src
    obtain ⟨its, rv, p1, z1, _⟩ := invK I sx
    obtain ⟨its2, rv2, p2, z2, _⟩ := invK I sy
    have hh : X.A.in1.handled = none := I.ok.hd hc
    have l1 := rv.length
    have l2 := rv2.length
    refine ⟨_, _, _, _, _, GoesN.zip2 S (drawsK hh k1 i1 a hia its.toArray) (drawsK hh k2 i2 b hib its2.toArray), ⟨hz, hTI, hTO, ⟨h1, p1⟩, ⟨h2, p2⟩⟩, fun c hc => ?_, fun hgo => ⟨?_, fun v h' hY st' hk => ?_⟩, fun hs => ?_⟩
    · have e' : c = z ∨ c = TO ∨ c = i1 ∨ c = i2 := by simpa using hc
      rcases e' with q | q | q | q <;> simp [q]
    · obtain ⟨xs', ys', x, y, p, q, e1, e2⟩ := hgo
      have E1 := invK_inj I p sx
      have E2 := invK_inj I q sy
      subst E1 E2
      have g1 : i < xs'.length := by
        rcases Nat.lt_or_ge i xs'.length with g | g
        · exact g
        · rw [List.getElem?_eq_none g] at e1; cases e1
      have g2 : i < ys'.length := by
        rcases Nat.lt_or_ge i ys'.length with g | g
        · exact g
        · rw [List.getElem?_eq_none g] at e2; cases e2
      simp only [List.size_toArray]
      omega
    · obtain ⟨T, u, v', rfl, hT, hu, hv, htup⟩ := hY
      obtain ⟨hz', hTI', hTO', ⟨h1', _⟩, ⟨h2', _⟩⟩ := st'
      refine ⟨⟨hz', hTI', hTO', h1', h2'⟩, ?_⟩
      obtain ⟨xs', ys', x, y, p, q, e1, e2⟩ := hgo
      have E1 := invK_inj I p sx
      have E2 := invK_inj I q sy
      subst E1 E2
      obtain ⟨u', hu', ru⟩ := rv.get e1
      obtain ⟨w', hw', rw'⟩ := rv2.get e2
      have eu : u = u' := by
        have : its[i]? = some u := by simpa using hu
        rw [hu'] at this; exact (Option.some.inj this).symm
      have ev : v' = w' := by
        have : its2[i]? = some v' := by simpa using hv
        rw [hw'] at this; exact (Option.some.inj this).symm
      subst eu ev
      refine ⟨T, .tup [x, y], rfl, hT, tup_ok (us := [u, v']) (.cons ru (.cons rw' .nil)) htup (by show 2 ≤ sizeLine; decide), T, x, y, rfl, I.hok.fresh hT, rfl, fun l hl => by rw [invK_inj I hl p]; exact e1, fun l hl => by rw [invK_inj I hl q]; exact e2⟩
    · obtain ⟨xs', ys', p, q, e⟩ := hs
      have E1 := invK_inj I p sx
      have E2 := invK_inj I q sy
      subst E1 E2
      simp only [List.size_toArray]
      omega
def iZ2 (K : PySem.W.Frag) (ta : TA) : TI := fun σ H R => ta σ H fun vs H1 => ∃ k1 k2 a b xs ys, vs = [.ref a, .ref b] ∧ SqK K k1 H1 a xs ∧ SqK K k2 H1 b ys ∧ R (ItZ2 K k1 a k2 b) H1
theorem pi_z2 {X : Cx} {e e2 : Expr} {ta : TA} {p pos tpos : Pos} {elts : List Expr} {kk : Nat} (hg : Gl X "zip") (hm : X.mg "zip" = none) (ha : PA X [e, e2] ta)
    (hs : starEach [e, e2] X.env = (false, eval e X.env) :: starEach [e2] X.env := by rfl) (hpl : (backTo pos (starEach [e2] X.env)).any (·.1) = false := by rfl) :
    PI X (.Tuple elts kk tpos) (.Call (.Name "zip" p) [e, e2] [] pos) (iZ2 X.K ta) := by
  refine ⟨fun pins s σ H R I h => ?_⟩
  refine Call_ (ld_blt I hg hm PyProof.Rows.boot_zip (PyProof.Rows.callWith_type1 (thn (ha.run pos pins s σ H _ I h) fun us s1 ⟨vs, H1, I1, r1, q1⟩ => ?_) hs hpl))
  obtain ⟨k1, k2, a, b, xs, ys, ex, hqx, hqy, q⟩ := q1
  subst ex
  obtain ⟨u1, u2, rfl, ra, rb⟩ := vals2 r1
  cases ra
  cases rb
  obtain ⟨its, rv, p1, _, la⟩ := invK I1 hqx
  obtain ⟨its2, rv2, p2, _, lb⟩ := invK I1 hqy
  refine zip_begins2 (beginsK k1 a its.toArray) (beginsK k2 b its2.toArray) p1 p2 fun h' hz hTI hTO h1 h2 hsz hk => wpAny_pyIter_zip hz ?_
  have I2 : Inv X pins σ H1 { s1 with heap := h' } := I1.kept (t' := s1.toks) hk
  refine ⟨s1.heap.objs.size + 4, [s1.heap.objs.size + 4, s1.heap.objs.size + 2, s1.heap.objs.size + 3, s1.heap.objs.size, s1.heap.objs.size + 1], _, _, H1, rfl, I2,
    turn_z2 (zip_sep2 (fp1 := [a]) (fp2 := [b]) (fun c hc => by rw [List.mem_singleton.mp hc]; exact la) (fun c hc => by rw [List.mem_singleton.mp hc]; exact lb)) (Nat.ne_of_lt la) (Nat.ne_of_lt (Nat.lt_succ_of_lt lb)), ⟨hz, hTI, ⟨_, _, hTO⟩, itK_new h1, itK_new h2⟩, fun c hcm => ?_, q⟩
  have hle : s1.heap.objs.size ≤ c := by
    have e' : c = s1.heap.objs.size + 4 ∨ c = s1.heap.objs.size + 2 ∨ c = s1.heap.objs.size + 3 ∨ c = s1.heap.objs.size ∨ c = s1.heap.objs.size + 1 := by simpa using hcm
    rcases e' with z | z | z | z | z
    · rw [z]; exact Nat.le_add_right _ _
    · rw [z]; exact Nat.le_add_right _ _
    · rw [z]; exact Nat.le_add_right _ _
    · rw [z]; exact Nat.le_refl _
    · rw [z]; exact Nat.le_add_right _ _
  exact I1.fpOk hle (I1.hok.fresh hle)
theorem lt_of_get {α : Type} {l : List α} {i : Nat} {x : α} (e : l[i]? = some x) : i < l.length := by
  rcases Nat.lt_or_ge i l.length with g | g
  · exact g
  · rw [List.getElem?_eq_none g] at e; cases e
theorem same_get {its : List Value} {i : Nat} {u u' : Value} (h : its.toArray[i]? = some u) (h' : its[i]? = some u') : u = u' := by
  have : its[i]? = some u := by simpa using h
  rw [h'] at this; exact (Option.some.inj this).symm
set_option maxHeartbeats 1000000 in
theorem meets_enumerate_new1 {v : Value} {o : Obj} {H : Heap → Prop} (B : Begins v o H) :
    Meets (Builtin.«enumerate.__new__» ⟨[.type "enumerate", v], []⟩) (fun _ R s => H s.heap ∧
      R (.ok (.ret (.ref (s.heap.push o).objs.size))) { s with heap := (s.heap.push o).push { cls := .type "enumerate", data := .fields #[.none, .bool false, .ref s.heap.objs.size, rawInt 0, .none, .none] } }) :=
  .of_wp fun prog w A R s h => by
    obtain ⟨hp, g, d, tk, os⟩ := s; obtain ⟨h1, h⟩ := h
    have hsub := sub_enumerate
    have q1 : ∀ {A' : Around} {E : Value → Shared → Prop} {Q : Value → Shared → Prop}, Q (.ref hp.objs.size) ⟨hp.push o, g, d, tk, os⟩ → wpAny (model prog w) A' (pyIter v) Q E ⟨hp, g, d, tk, os⟩ :=
      fun q => B.iter prog w _ _ ⟨hp, g, d, tk, os⟩ _ h1 q
    wp_walk using q1
    refine wpAny_stack_any fun st => wpAny_pure ?_
    split
    · rename_i c _ _ _ _ _
      cases (c == Value.type "enumerate")
      · wp_walk using q1
        exact ⟨_, rfl, h⟩
      · wp_walk using q1
        exact ⟨_, rfl, h⟩
    · wp_walk using q1
      exact ⟨_, rfl, h⟩
theorem enum_begins1 {prog : Program} {w : World} {A : Around} {E : Value → Shared → Prop} {s : Shared} {v : Value} {o : Obj} {H : Heap → Prop} {Q : Value → Shared → Prop} (B : Begins v o H) (h1 : H s.heap)
    (h : ∀ h', IsEnum h' (s.heap.objs.size + 1) s.heap.objs.size 0 .none → h'.get? s.heap.objs.size = some o → h'.objs.size = s.heap.objs.size + 2 →
      (∀ b o, s.heap.get? b = some o → h'.get? b = some o) → Q (.ref (s.heap.objs.size + 1)) { s with heap := h' }) :
    wpAny (model prog w) A (call (.type "enumerate") [v]) Q E s := by
  refine callType_new F.called_enumerate (by decide) (F.typeCall_enumerate_1 _) (F.newCall_enumerate_1 _) (fun obj => F.args_object_init_2 obj _) F.entry_enumerate_new
    (meets_enumerate_new1 B) ⟨h1, ?_⟩
  have hz : (s.heap.push o).objs.size = s.heap.objs.size + 1 := Heap.size_push ..
  show _ ∧ _
  rw [hz]
  have he : IsEnum ((s.heap.push o).push { cls := .type "enumerate", data := .fields #[.none, .bool false, .ref s.heap.objs.size, rawInt 0, .none, .none] }) (s.heap.objs.size + 1) s.heap.objs.size 0 .none := by
    have := Heap.get?_push_size (s.heap.push o) (o := { cls := .type "enumerate", data := .fields #[.none, .bool false, .ref s.heap.objs.size, rawInt 0, .none, .none] }) rfl
    rw [hz] at this; exact this
  refine ⟨⟨_, he, rfl⟩, h _ he (Heap.get?_push_of_some _ (Heap.get?_push_size _ B.free)) (by rw [Heap.size_push, hz]) fun b o x => Heap.get?_push_of_some _ (Heap.get?_push_of_some _ x)⟩
def ItE (K : PySem.W.Frag) (k : Bool) (a : Addr) : It :=
  ⟨fun i H => ∃ (xs : List V) (x : V), SqK K k H a xs ∧ xs[i]? = some x,
    fun i H v H' => ∃ T x, v = .ref T ∧ H T = none ∧ H' = upd H T (.tup [.int (i : Nat), x]) ∧ ∀ xs, SqK K k H a xs → xs[i]? = some x,
    fun i H => ∃ xs : List V, SqK K k H a xs ∧ i = xs.length⟩
theorem turn_e {P : Program} {w : World} {K : PySem.W.Frag} {elts : List Expr} {kk : Nat} {tpos : Pos} {k : Bool} {a e it : Addr} (hei : e ≠ it) (hea : e ≠ a) (hia : a ≠ it) :
    Turn P w K (.Tuple elts kk tpos) (ItE K k a) [e, it] e (fun i h => (∃ old, IsEnum h e it ((0 : Int) + (i : Int)) old) ∧ ItK k h it a i) := by
  refine turn_goes (by simp) (fun i h st d hd => ?_) (fun i h h' st k => ?_) (fun X hP hw hK hc i pins s σ H I hf st hg => ?_) fun A i s Q E st h => let ⟨⟨_, he⟩, _⟩ := st; wpAny_pyIter_enum he h
  · obtain ⟨⟨old, he⟩, h1⟩ := st
    have e' : d = e ∨ d = it := by simpa using hd
    rcases e' with q | q
    · rw [q]; exact ⟨_, he, fun v q => nomatch q⟩
    · rw [q]; exact h1.obj
  · obtain ⟨⟨old, he⟩, h1⟩ := st
    exact ⟨⟨old, k e (by simp) _ he⟩, h1.at fun o q => k it (by simp) o q⟩
  · subst hP hw hK
    obtain ⟨he, h1⟩ := st
    have src : ∃ xs, SqK X.K k H a xs := by
      rcases hg with ⟨xs, _, p, _⟩ | ⟨xs, p, _⟩
      · exact ⟨xs, p⟩
      · exact ⟨xs, p⟩
    obtain ⟨xs, sx⟩ := src
    obtain ⟨its, rv, p1, z1, _⟩ := invK I sx
    have hh : X.A.in1.handled = none := I.ok.hd hc
    have l1 := rv.length
    refine ⟨_, _, _, _, _, GoesN.enumFrom 0 (drawsK hh k it a hia its.toArray) e hei (by simp [hei, hea]) (by simp), ⟨he, ⟨h1, p1⟩⟩, fun d hd => hd, fun hgo => ⟨?_, fun v h' hY st' hk => ?_⟩, fun hs => ?_⟩
    · obtain ⟨xs', x, p, e1⟩ := hgo
      have E1 := invK_inj I p sx
      subst E1
      have g1 := lt_of_get e1
      simp only [List.size_toArray]
      omega
    · obtain ⟨T, t, u, rfl, hT, hu, htup⟩ := hY
      obtain ⟨he', ⟨h1', _⟩⟩ := st'
      refine ⟨⟨he', h1'⟩, ?_⟩
      obtain ⟨xs', x, p, e1⟩ := hgo
      have E1 := invK_inj I p sx
      subst E1
      obtain ⟨u', hu', ru⟩ := rv.get e1
      have eu := same_get hu hu'
      subst eu
      refine ⟨T, .tup [.int (i : Nat), x], rfl, hT, tup_ok (us := [.int ((0 : Int) + (i : Int)) t, u]) (.cons ⟨t, by rw [Int.zero_add]⟩ (.cons ru .nil)) htup (by show 2 ≤ sizeLine; decide), T, x, rfl, I.hok.fresh hT, rfl, fun l hl => by rw [invK_inj I hl p]; exact e1⟩
    · obtain ⟨xs', p, e⟩ := hs
      have E1 := invK_inj I p sx
      subst E1
      simp only [List.size_toArray]
      omega
def iE (K : PySem.W.Frag) (ta : TA) : TI := fun σ H R => ta σ H fun vs H1 => ∃ k a xs, vs = [.ref a] ∧ SqK K k H1 a xs ∧ R (ItE K k a) H1
theorem pi_e {X : Cx} {e : Expr} {ta : TA} {p pos tpos : Pos} {elts : List Expr} {kk : Nat} (hg : Gl X "enumerate") (hm : X.mg "enumerate" = none) (ha : PA X [e] ta) (hs : starEach [e] X.env = [(false, eval e X.env)] := by rfl) :
    PI X (.Tuple elts kk tpos) (.Call (.Name "enumerate" p) [e] [] pos) (iE X.K ta) := by
  refine ⟨fun pins s σ H R I h => ?_⟩
  refine Call_ (ld_blt (u := .type "enumerate") I hg hm (by decide +kernel) (PyProof.Rows.callWith_type1 (thn (ha.run pos pins s σ H _ I h) fun us s1 ⟨vs, H1, I1, r1, q1⟩ => ?_) (by rw [hs]; rfl) rfl))
  obtain ⟨k, a, xs, ex, hqx, q⟩ := q1
  subst ex
  rw [Vals.ref1 r1]
  obtain ⟨its, rv, p1, _, la⟩ := invK I1 hqx
  refine enum_begins1 (beginsK k a its.toArray) p1 fun h' he h1 hsz hk => wpAny_pyIter_enum he ?_
  have I2 : Inv X pins σ H1 { s1 with heap := h' } := I1.kept (t' := s1.toks) hk
  refine ⟨s1.heap.objs.size + 1, [s1.heap.objs.size + 1, s1.heap.objs.size], _, _, H1, rfl, I2,
    turn_e (Nat.ne_of_gt (Nat.lt_succ_self _)) (Nat.ne_of_gt (Nat.lt_succ_of_lt la)) (Nat.ne_of_lt la), ⟨⟨_, he⟩, itK_new h1⟩, fun d hdm => ?_, q⟩
  have hle : s1.heap.objs.size ≤ d := by
    have e' : d = s1.heap.objs.size + 1 ∨ d = s1.heap.objs.size := by simpa using hdm
    rcases e' with z | z
    · rw [z]; exact Nat.le_add_right _ _
    · rw [z]; exact Nat.le_refl _
  exact I1.fpOk hle (I1.hok.fresh hle)
end Pl
namespace Pl
open PySem PySem.Spec PyProof.Rows L2
variable [TJ]
structure PEnds where
  nx : Ro → Prop
  rt : Cell → Ro → Prop
  bk : Ro → Prop := fun _ => False
  ct : Ro → Prop := fun _ => False
abbrev TSp := PEnds → Ro → Prop
structure ERel (K : PySem.W.Frag) (G F : Hp) (P : PEnds) (D : Ends) : Prop where
  nx : ∀ F' H' σ' ρ', Up G F F' → Sim K G F' H' σ' ρ' → P.nx ρ' → D.nx σ' H'
  rt : ∀ F' H' σ' ρ' v c, Up G F F' → Sim K G F' H' (σ' ++ [some v]) (ρ' ++ [some c]) → P.rt c ρ' → D.rt v H'
  bk : ∀ F' H' σ' ρ', Up G F F' → Sim K G F' H' σ' ρ' → P.bk ρ' → D.bk σ' H'
  ct : ∀ F' H' σ' ρ', Up G F F' → Sim K G F' H' σ' ρ' → P.ct ρ' → D.ct σ' H'
theorem ERel.mono {K : PySem.W.Frag} {G F F1 : Hp} {P : PEnds} {D : Ends} (e : ERel K G F P D) (u : Up G F F1) : ERel K G F1 P D :=
  ⟨fun F' H' σ' ρ' v => e.nx F' H' σ' ρ' (u.trans v), fun F' H' σ' ρ' x c v => e.rt F' H' σ' ρ' x c (u.trans v), fun F' H' σ' ρ' v => e.bk F' H' σ' ρ' (u.trans v), fun F' H' σ' ρ' v => e.ct F' H' σ' ρ' (u.trans v)⟩
def SndS (K : PySem.W.Frag) (t : TS) (T : TSp) : Prop := ∀ (G F H : Hp) (σ : L2.St) (ρ : Ro) (P : PEnds) (D : Ends), Sim K G F H σ ρ → T P ρ → ERel K G F P D → t D σ H
structure PPS (X : Cx) (st : Stmt) (t : TS) (T : TSp) : Prop where
  ps : PS X st t
  snd : SndS X.K t T
structure PPSs (X : Cx) (st : List Stmt) (t : TS) (T : TSp) : Prop where
  ps : PSs X st t
  snd : SndS X.K t T
section
variable {X : Cx} {st : Stmt} {rest : List Stmt} {t u : TS} {T U : TSp} {e : Expr} {te : TE} {Te : TEp} {Tc : TCp} {pos : Pos}
def pNext : TSp := fun P ρ => P.nx ρ
def pSeq (T U : TSp) : TSp := fun P ρ => T { P with nx := U P } ρ
theorem ppss_nil : PPSs X [] tNext pNext := ⟨pss_nil, fun G F H σ ρ P D S h r => r.nx F H σ ρ (.refl _ _) S h⟩
theorem ppss_one (h1 : PPS X st t T) : PPSs X [st] t T := ⟨pss_one h1.ps, h1.snd⟩
theorem ppss_cons (h1 : PPS X st t T) (h2 : PPSs X rest u U) : PPSs X (st :: rest) (tSeq t u) (pSeq T U) := ⟨pss_cons h1.ps h2.ps, fun G F H σ ρ P D S h r =>
  h1.snd G F H σ ρ _ _ S h ⟨fun F' H' σ' ρ' u S' q => h2.snd G F' H' σ' ρ' P D S' q (r.mono u), r.rt, r.bk, r.ct⟩⟩
def pDrop (Te : TEp) : TSp := fun P ρ => Te ρ fun _ ρ1 => P.nx ρ1
theorem pps_expr (he : PPE X e te Te) (hs : swapsWith e none pos.line X.env = pure false := by rfl) : PPS X (.Expr e pos) (tDrop te) (pDrop Te) := ⟨ps_expr he.pe hs, fun G F H σ ρ P D S h r =>
  he.snd G F H σ ρ _ _ S h fun v d F' H' ρ' u S' _ q => r.nx F' H' σ ρ' u S' q⟩
def pRet (Tc : TCp) : TSp := fun P ρ => Tc ρ P.rt
theorem pps_ret (he : PPC X e te Tc) : PPS X (.Return (some e) pos) (tRet te) (pRet Tc) := ⟨ps_ret he.pe, fun G F H σ ρ P D S h r =>
  he.snd G F H σ ρ _ _ S h fun v c F' H' ρ' u S' q => r.rt F' H' σ ρ' v c u S' q⟩
def pIfS (C : TTp) (T U : TSp) : TSp := fun P ρ => C ρ fun b ρ1 => if b = true then T P ρ1 else U P ρ1
theorem pps_if {c : Expr} {a b : List Stmt} {tc : TT} {C : TTp} (hc : PPT X c tc C) (ha : PPSs X a t T) (hb : PPSs X b u U) : PPS X (.If c a b pos) (tIfS tc t u) (pIfS C T U) := ⟨ps_if hc.pt ha.ps hb.ps, fun G F H σ ρ P D S h r =>
  hc.snd G F H σ ρ _ _ S h fun b F' H' ρ' u S' q => by
    cases b with
    | true => exact ite_ti (ha.snd G F' H' σ ρ' P D S' (ite_t q) (r.mono u))
    | false => exact ite_fi (hb.snd G F' H' σ ρ' P D S' (ite_f q) (r.mono u))⟩
def pNever : TSp := fun _ _ => False
theorem pps_never : PPS X st tNever pNever := ⟨ps_never, fun _ _ _ _ _ _ _ _ h _ => h.elim⟩
abbrev TGp := D → Ro → (Ro → Prop) → Prop
abbrev TGsp := List D → Ro → (Ro → Prop) → Prop
def SndG (K : PySem.W.Frag) (g : TG) (Gp : TGp) (is : List Nat) : Prop := ∀ (G F H : Hp) (σ : L2.St) (ρ : Ro) (Q : Ro → Prop) (R : L2.St → Hp → Prop) (v : V) (d : D), Sim K G F H σ ρ → Rep K F v d → Gp d ρ Q →
  (∀ F' H' σ' ρ', Up G F F' → Sim K G F' H' σ' ρ' → (∀ j, j ∉ is → σ'[j]? = σ[j]?) → σ'.length = σ.length → Q ρ' → R σ' H') → g v σ H R
def SndGs (K : PySem.W.Frag) (g : TGs) (Gp : TGsp) (is : List Nat) : Prop := ∀ (G F H : Hp) (σ : L2.St) (ρ : Ro) (Q : Ro → Prop) (R : L2.St → Hp → Prop) (vs : List V) (ds : List D), Sim K G F H σ ρ → Reps K F vs ds → Gp ds ρ Q →
  (∀ F' H' σ' ρ', Up G F F' → Sim K G F' H' σ' ρ' → (∀ j, j ∉ is → σ'[j]? = σ[j]?) → σ'.length = σ.length → Q ρ' → R σ' H') → g vs σ H R
structure PTg (X : Cx) (tg : Expr) (g : TG) (Gp : TGp) (is : List Nat) : Prop where
  pg : PG X tg g
  snd : SndG X.K g Gp is
structure PTgs (X : Cx) (tgs : List Expr) (g : TGs) (Gp : TGsp) (is : List Nat) : Prop where
  pg : PGs X tgs g
  snd : SndGs X.K g Gp is
def hName (i : Nat) : TGp := fun d ρ Q => Q (ρ.set i (some (.val d)))
theorem ptg_name {i : Nat} {x : Str} (hN : X.N.Nodup) (hi : X.N[i]? = some x := by rfl) (hx : Loc X.env.scope x := by first | exact Or.inl rfl | exact Or.inr rfl) (hf : X.fn x = true ∨ X.env.scope.names.lookup x = some .local := by first | exact .inl rfl | exact .inr rfl | assumption) : PTg X (.Name x pos) (gName i) (hName i) [i] :=
  ⟨pg_name hN hi hx hf, fun G F H σ ρ Q R v d S r h k => k F H _ _ (.refl _ _) (S.setVal i r) (fun j hj => List.getElem?_set_ne (fun z => hj (by simp [z]))) (by simp) h⟩
def hNil : TGsp := fun ds ρ Q => ds = [] ∧ Q ρ
def hCons (g : TGp) (gs : TGsp) : TGsp := fun ds ρ Q => match ds with | d :: r => g d ρ fun ρ' => gs r ρ' Q | [] => False
theorem ptgs_nil : PTgs X [] gNil hNil [] := ⟨pgs_nil, fun G F H σ ρ Q R vs ds S r h k => by
  obtain ⟨rfl, h⟩ := h
  cases r
  exact ⟨rfl, k F H σ ρ (.refl _ _) S (fun _ _ => rfl) rfl h⟩⟩
theorem ptgs_cons {e : Expr} {es : List Expr} {g : TG} {gs : TGs} {Gp : TGp} {Gs : TGsp} {is js : List Nat} (h1 : PTg X e g Gp is) (h2 : PTgs X es gs Gs js)
    (hs : (assignEach (e :: es) X.env).map (·.2) = assign e X.env :: (assignEach es X.env).map (·.2) := by rfl) : PTgs X (e :: es) (gCons g gs) (hCons Gp Gs) (is ++ js) := ⟨pgs_cons h1.pg h2.pg hs, fun G F H σ ρ Q R vs ds S r h k => by
  cases r with
  | nil => exact h.elim
  | cons r1 r2 => exact ⟨_, _, rfl, h1.snd G F H σ ρ _ _ _ _ S r1 h fun F1 H1 σ1 ρ1 u1 S1 o1 l1 q1 => h2.snd G F1 H1 σ1 ρ1 _ _ _ _ S1 (r2.mono u1.ex) q1 fun F2 H2 σ2 ρ2 u2 S2 o2 l2 q2 =>
      k F2 H2 σ2 ρ2 (u1.trans u2) S2 (fun j hj => (o2 j fun z => hj (List.mem_append_right _ z)).trans (o1 j fun z => hj (List.mem_append_left _ z))) (l2.trans l1) q2⟩⟩
def gAny (K : PySem.W.Frag) (n : Nat) (t : TGs) : TG := fun v σ H Q => gTup K n t v σ H Q ∨ gUnl K n t v σ H Q
def hTup (n : Nat) (g : TGsp) : TGp := fun d ρ Q => match d with
  | .tup ds => ds.length = n ∧ g ds ρ Q
  | .lst ds => ds.length = n ∧ g ds ρ Q
  | _ => False
theorem ptg_tup {es : List Expr} {k : Nat} {t : TGs} {Gp : TGsp} {n : Nat} {is : List Nat} (hc : X.calm = true) (h : PTgs X es t Gp is)
    (hn : (assignEach es X.env).length = n := by rfl) (hst : (assignEach es X.env).findIdx? (·.1) = none := by rfl) : PTg X (.Tuple es k pos) (gAny X.K n t) (hTup n Gp) is :=
  ⟨⟨fun pins s σ H v u Q I r hw => hw.elim (fun hw => (pg_tup hc h.pg hn hst).run pins s σ H v u Q I r hw) fun hw => (pg_unl hc h.pg hn hst).run pins s σ H v u Q I r hw⟩, fun G F H σ ρ Q R v d S r hh k => by
    cases r with
    | tup e r => exact .inl ⟨_, _, rfl, SqT.of (S.hF _ _ e), by rw [r.length]; exact hh.1, h.snd G F H σ ρ Q R _ _ S r hh.2 k⟩
    | lst e r => exact .inr ⟨_, _, rfl, SqL.of (S.hF _ _ e), by rw [r.length]; exact hh.1, h.snd G F H σ ρ Q R _ _ S r hh.2 k⟩
    | _ => exact hh.elim⟩
def pSet (i : Nat) (Tc : TCp) : TSp := fun P ρ => Tc ρ fun c ρ1 => P.nx (ρ1.set i (some c))
theorem snd_set {K : PySem.W.Frag} {i : Nat} {te : TE} {Tc : TCp} (h : SndC K te Tc) : SndS K (tAsg te (gName i)) (pSet i Tc) := fun G F H σ ρ P D S hT r =>
  h G F H σ ρ _ _ S hT fun v c F' H' ρ' u S' q => r.nx F' H' _ _ u (S'.store i) q
theorem pps_set {i : Nat} {x : Str} {pos' : Pos} (hN : X.N.Nodup) (he : PPC X e te Tc) (hi : X.N[i]? = some x := by rfl) (hx : Loc X.env.scope x := by first | exact Or.inl rfl | exact Or.inr rfl) (hs : swapsWith e (some (.Name x pos')) pos.line X.env = pure false := by rfl) (hf : X.fn x = true ∨ X.env.scope.names.lookup x = some .local := by first | exact .inl rfl | exact .inr rfl | assumption) :
    PPS X (.Assign [.Name x pos'] e pos) (tAsg te (gName i)) (pSet i Tc) := ⟨ps_set hN hi hx he.pe hs hf, snd_set he.snd⟩
def pAsg (Te : TEp) (g : TGp) : TSp := fun P ρ => Te ρ fun d ρ1 => g d ρ1 P.nx
theorem pps_asg {tg : Expr} {g : TG} {Gp : TGp} {is : List Nat} (he : PPE X e te Te) (hg : PTg X tg g Gp is) (hs : swapsWithSole [tg] e pos.line X.env = pure false := by rfl) (hw : swappedStores [tg] e X.env = pure none := by rfl)
    (h1 : (assignEach [tg] X.env).map (·.2) = [assign tg X.env] := by rfl) : PPS X (.Assign [tg] e pos) (tAsg te g) (pAsg Te Gp) := ⟨ps_asg he.pe hg.pg hs hw h1, fun G F H σ ρ P D S hT r =>
  he.snd G F H σ ρ _ _ S hT fun v d F' H' ρ' u S' rv q => hg.snd G F' H' σ ρ' _ _ v d S' rv q fun F2 H2 σ2 ρ2 u2 S2 _ _ q2 => r.nx F2 H2 σ2 ρ2 (u.trans u2) S2 q2⟩
def pPar (i j : Nat) (T : TAp) : TSp := fun P ρ => T ρ fun ds ρ1 => match ds with | [x, y] => P.nx ((ρ1.set i (some (.val x))).set j (some (.val y))) | _ => False
theorem pps_par {i j : Nat} {x y : Str} {a b : Expr} {ta : TA} {TA' : TAp} {px py pt : Pos} {kt k2 pt2} (hc : X.calm = true) (hN : X.N.Nodup) (ha : PPA X [a, b] ta TA') (hi : X.N[i]? = some x := by rfl) (hj : X.N[j]? = some y := by rfl) (hij : i ≠ j := by decide)
    (hx : X.env.scope.names.lookup x = some .local := by rfl) (hy : X.env.scope.names.lookup y = some .local := by rfl)
    (hw : swappedStores [.Tuple [.Name x px, .Name y py] kt pt] (.Tuple [a, b] k2 pt2) X.env = pure (some [x, y]) := by rfl)
    (hs : swapsWithSole [.Tuple [.Name x px, .Name y py] kt pt] (.Tuple [a, b] k2 pt2) pos.line X.env = pure false := by rfl) :
    PPS X (.Assign [.Tuple [.Name x px, .Name y py] kt pt] (.Tuple [a, b] k2 pt2) pos) (tPar i j ta) (pPar i j TA') := ⟨ps_par hc hN hi hj hij hx hy ha.pa hw hs, fun G F H σ ρ P D S hT r =>
  ha.snd G F H σ ρ _ _ S hT fun vs ds F' H' ρ' u S' rv q => by
    match rv, q with
    | .cons (d := d1) r1 (.cons (d := d2) r2 .nil), q => exact ⟨_, _, rfl, r.nx F' H' _ _ u ((S'.setVal i r1).setVal j r2) q⟩
    | .nil, q => exact q.elim
    | .cons _ .nil, q => exact q.elim
    | .cons _ (.cons _ (.cons _ _)), q => exact q.elim⟩
end
def ItRep (K : PySem.W.Frag) (J : It) (F : Hp) (ds : List D) : Prop := ∀ F' H, Same F F' → Same F' H →
  (∀ (i : Nat) (d : D), ds[i]? = some d → J.go i H ∧ ∀ x H', J.yld i H x H' → ∃ F'', Res K F' H x d F'' H') ∧ J.stop ds.length H
theorem ItRep.mono {K : PySem.W.Frag} {J : It} {F F1 : Hp} {ds : List D} (h : ItRep K J F ds) (e : Same F F1) : ItRep K J F1 ds := fun F' H e1 e2 => h F' H (e.trans e1) e2
def SndI (K : PySem.W.Frag) (wi : TI) (T : TAp) : Prop := ∀ (G F H : Hp) (σ : L2.St) (ρ : Ro) (Q : List D → Ro → Prop) (R : It → Hp → Prop), Sim K G F H σ ρ → T ρ Q →
  (∀ J ds F' H' ρ', Up G F F' → Sim K G F' H' σ ρ' → ItRep K J F' ds → Q ds ρ' → R J H') → wi σ H R
structure PPI (X : Cx) (tg iter : Expr) (wi : TI) (T : TAp) : Prop where
  pi : PI X tg iter wi
  snd : SndI X.K wi T
theorem itrep_list {K : PySem.W.Frag} {F : Hp} {a : Addr} {vs : List V} {ds : List D} (h : F a = some (.lst vs)) (r : Reps K F vs ds) : ItRep K (Itl K a) F ds := fun F' H e1 e2 => by
  have hH : H a = some (.lst vs) := e2 _ _ (e1 _ _ h)
  refine ⟨fun i d hd => ?_, ⟨vs, SqL.of hH, by rw [r.length]; exact Nat.le_refl _⟩⟩
  obtain ⟨v, hv, rv⟩ := r.get hd
  refine ⟨⟨vs, v, SqL.of hH, hv⟩, fun x H' y => ?_⟩
  obtain ⟨rfl, y⟩ := y
  have e : x = v := Option.some.inj ((y vs (SqL.of hH)).symm.trans hv)
  subst e
  exact ⟨F', .old (rv.mono e1)⟩
theorem itrep_tup {K : PySem.W.Frag} {F : Hp} {a : Addr} {vs : List V} {ds : List D} (h : F a = some (.tup vs)) (r : Reps K F vs ds) : ItRep K (Itt K a) F ds := fun F' H e1 e2 => by
  have hH : H a = some (.tup vs) := e2 _ _ (e1 _ _ h)
  refine ⟨fun i d hd => ?_, ⟨vs, SqT.of hH, by rw [r.length]; exact Nat.le_refl _⟩⟩
  obtain ⟨v, hv, rv⟩ := r.get hd
  refine ⟨⟨vs, v, SqT.of hH, hv⟩, fun x H' y => ?_⟩
  obtain ⟨rfl, y⟩ := y
  have e : x = v := Option.some.inj ((y vs (SqT.of hH)).symm.trans hv)
  subst e
  exact ⟨F', .old (rv.mono e1)⟩
def asSeq (d : D) (k : List D → Prop) : Prop := match d with
  | .lst xs => k xs
  | .tup xs => k xs
  | _ => False
theorem Rep.seq {K : PySem.W.Frag} {F : Hp} {v : V} {d : D} {k : List D → Prop} (r : Rep K F v d) (h : asSeq d k) : ∃ (a : Addr) (q : Bool) (vs : List V) (ds : List D), v = .ref a ∧ F a = some (if q = true then .lst vs else .tup vs) ∧ Reps K F vs ds ∧ k ds := by
  cases r with
  | lst e r => exact ⟨_, true, _, _, rfl, e, r, h⟩
  | tup e r => exact ⟨_, false, _, _, rfl, e, r, h⟩
  | _ => exact h.elim
theorem sqk_of {K : PySem.W.Frag} {H : Hp} {a : Addr} {q : Bool} {vs : List V} (h : H a = some (if q = true then HO.lst vs else .tup vs)) : SqK K q H a vs := by
  cases q with
  | true => exact SqL.of h
  | false => exact SqT.of h
section
variable {X : Cx} {tg : Expr} {l : Expr} {tl : TE} {Tl : TEp} {pos : Pos}
def iAny (K : PySem.W.Frag) (tl : TE) : TI := fun σ H R => tl σ H fun x H1 => ∃ a, x = .ref a ∧ (((∃ xs, SqL K H1 a xs) ∧ R (Itl K a) H1) ∨ ((∃ xs, SqT K H1 a xs) ∧ R (Itt K a) H1))
theorem pi_any (hl : PE X l tl) : PI X tg l (iAny X.K tl) := by
  refine ⟨fun pins s σ H R I h => ?_⟩
  refine thn (hl.run pins s σ H _ I h) fun v s1 ⟨x, H1, I1, r1, q1⟩ => ?_
  obtain ⟨a, e, q1⟩ := q1
  subst e
  cases r1
  rcases q1 with ⟨⟨xs, hq⟩, q⟩ | ⟨⟨xs, hq⟩, q⟩
  · obtain ⟨its, rv, p, hz⟩ := I1.list hq
    refine wpAny_pyIter_list p.isList ?_
    refine ⟨s1.heap.objs.size, [s1.heap.objs.size], _, _, H1, rfl, I1.kept (t' := s1.toks) fun b o e => Heap.get?_push_of_some _ e, turn_list a _, ⟨_, Heap.get?_push_size _ rfl, rfl, rfl⟩, fun b hb => ?_, q⟩
    have e : b = s1.heap.objs.size := by simpa using hb
    subst e
    exact I1.fpOk (Nat.le_refl _) (I1.hok.fresh (Nat.le_refl _))
  · obtain ⟨its, rv, p, hz⟩ := I1.tuple hq
    refine wpAny_pyIter_tuple (show s1.heap.IsTuple a its.toArray from p) ?_
    refine ⟨s1.heap.objs.size, [s1.heap.objs.size], _, _, H1, rfl, I1.kept (t' := s1.toks) fun b o e => Heap.get?_push_of_some _ e, turn_tuple a _, ⟨_, Heap.get?_push_size _ rfl, rfl, rfl⟩, fun b hb => ?_, q⟩
    have e : b = s1.heap.objs.size := by simpa using hb
    subst e
    exact I1.fpOk (Nat.le_refl _) (I1.hok.fresh (Nat.le_refl _))
def jSeq (Tl : TEp) : TAp := fun ρ Q => Tl ρ fun x ρ1 => asSeq x fun xs => Q xs ρ1
theorem ppi_seq (hl : PPE X l tl Tl) : PPI X tg l (iAny X.K tl) (jSeq Tl) := ⟨pi_any hl.pe, fun G F H σ ρ Q R S h k =>
  hl.snd G F H σ ρ _ _ S h fun v d F' H' ρ' u S' rv q => by
    cases rv with
    | lst e r => exact ⟨_, rfl, .inl ⟨⟨_, SqL.of (S'.hF _ _ e)⟩, k _ _ F' H' ρ' u S' (itrep_list e r) q⟩⟩
    | tup e r => exact ⟨_, rfl, .inr ⟨⟨_, SqT.of (S'.hF _ _ e)⟩, k _ _ F' H' ρ' u S' (itrep_tup e r) q⟩⟩
    | _ => exact q.elim⟩
def rangeD (lo : Int) (n : Nat) : List D := (List.range n).map fun (i : Nat) => .int (lo + (i : Int))
theorem itrep_range {K : PySem.W.Frag} {F : Hp} (lo : Int) (n : Nat) : ItRep K (Itr lo n) F (rangeD lo n) := fun F' H e1 e2 => by
  refine ⟨fun i d hd => ?_, ?_⟩
  · have hi : i < n := by have := lt_of_get hd; simpa [rangeD] using this
    refine ⟨hi, fun x H' y => ?_⟩
    obtain ⟨rfl, rfl⟩ := y
    have e : d = .int (lo + i) := by
      unfold rangeD at hd
      rw [List.getElem?_map, List.getElem?_range hi] at hd
      exact (Option.some.inj hd).symm
    subst e
    exact ⟨F', .old (.int _)⟩
  · show n ≤ (rangeD lo n).length
    simp [rangeD]
def jRng1 (T : TAp) : TAp := fun ρ Q => T ρ fun ds ρ1 => match ds with | [.int j] => -(2 ^ 62) ≤ j ∧ j < 2 ^ 62 ∧ Q (rangeD 0 j.toNat) ρ1 | _ => False
theorem Reps.int1 {K : PySem.W.Frag} {F : Hp} {vs : List V} {j : Int} (r : Reps K F vs [.int j]) : vs = [.int j] := by
  cases r with
  | cons h t => cases h; cases t; rfl
theorem Reps.int2 {K : PySem.W.Frag} {F : Hp} {vs : List V} {i j : Int} (r : Reps K F vs [.int i, .int j]) : vs = [.int i, .int j] := by
  cases r with
  | cons h t => cases h; rw [t.int1]
theorem ppi_range1 {a : Expr} {ta : TA} {TA' : TAp} {p : Pos} (hg : Gl X "range") (hm : X.mg "range" = none) (ha : PPA X [a] ta TA') (hs : starEach [a] X.env = [(false, eval a X.env)] := by rfl) : PPI X tg (.Call (.Name "range" p) [a] [] pos) (iRng1 ta) (jRng1 TA') := ⟨pi_range1 hg hm ha.pa hs, fun G F H σ ρ Q R S h k =>
  ha.snd G F H σ ρ _ _ S h fun vs ds F' H' ρ' u S' rv q => by
    match ds, rv, q with
    | [.int j], rv, q => exact ⟨j, rv.int1, q.1, q.2.1, k _ _ F' H' ρ' u S' (itrep_range 0 _) q.2.2⟩⟩
def jRng2 (T : TAp) : TAp := fun ρ Q => T ρ fun ds ρ1 => match ds with | [.int i, .int j] => (-(2 ^ 62) ≤ i ∧ i < 2 ^ 62 ∧ -(2 ^ 62) ≤ j ∧ j < 2 ^ 62) ∧ Q (rangeD i (j - i).toNat) ρ1 | _ => False
theorem ppi_range2 {a b : Expr} {ta : TA} {TA' : TAp} {p : Pos} (hg : Gl X "range") (hm : X.mg "range" = none) (ha : PPA X [a, b] ta TA') (hs : starEach [a, b] X.env = [(false, eval a X.env), (false, eval b X.env)] := by rfl) (hs2 : starEach [b] X.env = [(false, eval b X.env)] := by rfl) : PPI X tg (.Call (.Name "range" p) [a, b] [] pos) (iRng2 ta) (jRng2 TA') := ⟨pi_range2 hg hm ha.pa hs hs2, fun G F H σ ρ Q R S h k =>
  ha.snd G F H σ ρ _ _ S h fun vs ds F' H' ρ' u S' rv q => by
    match ds, rv, q with
    | [.int i, .int j], rv, q => exact ⟨i, j, rv.int2, q.1, k _ _ F' H' ρ' u S' (itrep_range i _) q.2⟩⟩
theorem get_zipWith {α β γ : Type} {f : α → β → γ} {xs : List α} {ys : List β} {i : Nat} {z : γ} (h : (List.zipWith f xs ys)[i]? = some z) : ∃ x y, xs[i]? = some x ∧ ys[i]? = some y ∧ z = f x y := by
  rw [List.getElem?_zipWith] at h
  cases e1 : xs[i]? with
  | none => rw [e1] at h; simp at h
  | some x =>
    cases e2 : ys[i]? with
    | none => rw [e1, e2] at h; simp at h
    | some y => rw [e1, e2] at h; exact ⟨x, y, rfl, rfl, by simpa using h.symm⟩
def zipD (xs ys : List D) : List D := List.zipWith (fun x y => .tup [x, y]) xs ys
theorem itrep_z2 {K : PySem.W.Frag} {F : Hp} {k1 k2 : Bool} {a b : Addr} {vs ws : List V} {xs ys : List D} (h1 : F a = some (if k1 = true then .lst vs else .tup vs)) (h2 : F b = some (if k2 = true then .lst ws else .tup ws)) (r1 : Reps K F vs xs) (r2 : Reps K F ws ys) : ItRep K (ItZ2 K k1 a k2 b) F (zipD xs ys) := fun F' H e1 e2 => by
  have s1 : SqK K k1 H a vs := sqk_of (e2 _ _ (e1 _ _ h1))
  have s2 : SqK K k2 H b ws := sqk_of (e2 _ _ (e1 _ _ h2))
  refine ⟨fun i d hd => ?_, ⟨vs, ws, s1, s2, by simp [zipD, r1.length, r2.length]⟩⟩
  obtain ⟨x, y, hx, hy, rfl⟩ := get_zipWith hd
  obtain ⟨v, hv, rv⟩ := r1.get hx
  obtain ⟨w, hw, rw'⟩ := r2.get hy
  refine ⟨⟨vs, ws, v, w, s1, s2, hv, hw⟩, fun z H' q => ?_⟩
  obtain ⟨T, v', w', rfl, hT, rfl, f1, f2⟩ := q
  have ev : v' = v := Option.some.inj ((f1 _ s1).symm.trans hv)
  have ew : w' = w := Option.some.inj ((f2 _ s2).symm.trans hw)
  subst ev ew
  have hn : F' T = none := e2.free hT
  exact ⟨_, .new hT (.tup upd_same (.cons ((rv.mono e1).mono (same_new hn)) (.cons ((rw'.mono e1).mono (same_new hn)) .nil)))⟩
def jZ2 (T : TAp) : TAp := fun ρ Q => T ρ fun ds ρ1 => match ds with | [x, y] => asSeq x fun xs => asSeq y fun ys => Q (zipD xs ys) ρ1 | _ => False
theorem ppi_z2 {e e2 : Expr} {ta : TA} {TA' : TAp} {p tpos : Pos} {elts : List Expr} {kk : Nat} (hg : Gl X "zip") (hm : X.mg "zip" = none) (ha : PPA X [e, e2] ta TA')
    (hs : starEach [e, e2] X.env = (false, eval e X.env) :: starEach [e2] X.env := by rfl) (hpl : (backTo pos (starEach [e2] X.env)).any (·.1) = false := by rfl) :
    PPI X (.Tuple elts kk tpos) (.Call (.Name "zip" p) [e, e2] [] pos) (iZ2 X.K ta) (jZ2 TA') := ⟨pi_z2 hg hm ha.pa hs hpl, fun G F H σ ρ Q R S h k =>
  ha.snd G F H σ ρ _ _ S h fun vs ds F' H' ρ' u S' rv q => by
    rcases ds with _ | ⟨x, _ | ⟨y, _ | ⟨_, _⟩⟩⟩ <;> try exact q.elim
    · rcases rv with _ | ⟨rx, rv⟩
      rcases rv with _ | ⟨ry, rv⟩
      rcases rv with _ | _
      obtain ⟨a, k1, ws, xs, rfl, h1, r1, q⟩ := rx.seq q
      obtain ⟨b, k2, zs, ys, rfl, h2, r2, q⟩ := ry.seq q
      exact ⟨k1, k2, a, b, ws, zs, rfl, sqk_of (S'.hF _ _ h1), sqk_of (S'.hF _ _ h2), k _ _ F' H' ρ' u S' (itrep_z2 h1 h2 r1 r2) q⟩⟩
def enumD (n : Nat) : List D → List D
  | [] => []
  | x :: xs => .tup [.int n, x] :: enumD (n + 1) xs
theorem enumD_get : ∀ {xs : List D} {n i : Nat} {d : D}, (enumD n xs)[i]? = some d → ∃ x, xs[i]? = some x ∧ d = .tup [.int (n + i : Nat), x]
  | x :: xs, n, 0, d, h => ⟨x, rfl, (Option.some.inj h).symm⟩
  | x :: xs, n, i + 1, d, h => by
    obtain ⟨a, h1, h2⟩ := enumD_get (xs := xs) (n := n + 1) (i := i) (d := d) h
    exact ⟨a, h1, by rw [h2, show n + 1 + i = n + (i + 1) by omega]⟩
  | [], _, _, _, h => by simp [enumD] at h
theorem enumD_len : ∀ (xs : List D) (n : Nat), (enumD n xs).length = xs.length
  | [], _ => rfl
  | x :: xs, n => by simp [enumD, enumD_len xs (n + 1)]
theorem itrep_e {K : PySem.W.Frag} {F : Hp} {k : Bool} {a : Addr} {vs : List V} {xs : List D} (h1 : F a = some (if k = true then .lst vs else .tup vs)) (r1 : Reps K F vs xs) : ItRep K (ItE K k a) F (enumD 0 xs) := fun F' H e1 e2 => by
  have s1 : SqK K k H a vs := sqk_of (e2 _ _ (e1 _ _ h1))
  refine ⟨fun i d hd => ?_, ⟨vs, s1, by rw [enumD_len, r1.length]⟩⟩
  obtain ⟨x, hx, rfl⟩ := enumD_get hd
  obtain ⟨v, hv, rv⟩ := r1.get hx
  refine ⟨⟨vs, v, s1, hv⟩, fun z H' q => ?_⟩
  obtain ⟨T, v', rfl, hT, rfl, f1⟩ := q
  have ev : v' = v := Option.some.inj ((f1 _ s1).symm.trans hv)
  subst ev
  have hn : F' T = none := e2.free hT
  rw [Nat.zero_add]
  exact ⟨_, .new hT (.tup upd_same (.cons (.int _) (.cons ((rv.mono e1).mono (same_new hn)) .nil)))⟩
def jE (T : TAp) : TAp := fun ρ Q => T ρ fun ds ρ1 => match ds with | [x] => asSeq x fun xs => Q (enumD 0 xs) ρ1 | _ => False
theorem ppi_e {e : Expr} {ta : TA} {TA' : TAp} {p tpos : Pos} {elts : List Expr} {kk : Nat} (hg : Gl X "enumerate") (hm : X.mg "enumerate" = none) (ha : PPA X [e] ta TA') (hs : starEach [e] X.env = [(false, eval e X.env)] := by rfl) :
    PPI X (.Tuple elts kk tpos) (.Call (.Name "enumerate" p) [e] [] pos) (iE X.K ta) (jE TA') := ⟨pi_e hg hm ha.pa hs, fun G F H σ ρ Q R S h k =>
  ha.snd G F H σ ρ _ _ S h fun vs ds F' H' ρ' u S' rv q => by
    match ds, rv, q with
    | [x], .cons rx .nil, q =>
      obtain ⟨a, k1, ws, xs, rfl, h1, r1, q⟩ := rx.seq q
      exact ⟨k1, a, ws, rfl, sqk_of (S'.hF _ _ h1), k _ _ F' H' ρ' u S' (itrep_e h1 r1) q⟩⟩
end
def forW (g : TGp) (tb : TSp) (P : PEnds) : List D → Ro → Prop
  | [], ρ => P.nx ρ
  | d :: ds, ρ => g d ρ fun ρ1 => tb { P with nx := forW g tb P ds, ct := forW g tb P ds, bk := P.nx } ρ1
def pFor (Ti : TAp) (g : TGp) (tb : TSp) : TSp := fun P ρ => Ti ρ fun ds ρ1 => forW g tb P ds ρ1
theorem snd_for {K : PySem.W.Frag} {wi : TI} {Ti : TAp} {g : TG} {Gp : TGp} {is : List Nat} {tb : TS} {Tb : TSp} (hi : SndI K wi Ti) (hg : SndG K g Gp is) (hb : SndS K tb Tb) : SndS K (tFor wi g tb) (pFor Ti Gp Tb) := fun G F H σ ρ P D S h r =>
  hi G F H σ ρ _ _ S h fun J ds F1 H1 ρ1 u1 S1 J1 w1 => by
    refine ⟨fun i m σ' H' => m + i = ds.length ∧ ∃ F' ρ', Up G F1 F' ∧ Sim K G F' H' σ' ρ' ∧ forW Gp Tb P (ds.drop i) ρ', ⟨ds.length, by omega, F1, ρ1, .refl _ _, S1, w1⟩, fun i m σ' H' hW => ?_⟩
    obtain ⟨hm, F', ρ', u', S', w'⟩ := hW
    have J' := J1 F' H' u'.ex S'.hF
    by_cases hlt : i < ds.length
    · refine .inr ⟨(J'.1 i ds[i] (List.getElem?_eq_getElem hlt)).1, fun σ'' H'' => ∃ F'' ρ'', Up G F1 F'' ∧ Sim K G F'' H'' σ'' ρ'' ∧ forW Gp Tb P (ds.drop (i + 1)) ρ'', fun σ'' H'' q => ⟨m - 1, by omega, by omega, q⟩, fun x H'' hy => ?_⟩
      obtain ⟨F2, res⟩ := (J'.1 i ds[i] (List.getElem?_eq_getElem hlt)).2 x H'' hy
      obtain ⟨u2, S2, r2⟩ := S'.res res
      rw [List.drop_eq_getElem_cons hlt] at w'
      refine hg G F2 H'' σ' ρ' _ _ x _ S2 r2 w' fun F3 H3 σ3 ρ3 u3 S3 _ _ q3 => hb G F3 H3 σ3 ρ3 _ _ S3 q3 ?_
      have up := (u'.trans u2).trans u3
      exact ⟨fun F4 H4 σ4 ρ4 u4 S4 q4 => ⟨F4, ρ4, up.trans u4, S4, q4⟩, fun F4 H4 σ4 ρ4 v c u4 S4 q4 => r.rt F4 H4 σ4 ρ4 v c (u1.trans (up.trans u4)) S4 q4,
        fun F4 H4 σ4 ρ4 u4 S4 q4 => r.nx F4 H4 σ4 ρ4 (u1.trans (up.trans u4)) S4 q4, fun F4 H4 σ4 ρ4 u4 S4 q4 => ⟨F4, ρ4, up.trans u4, S4, q4⟩⟩
    · have e : i = ds.length := by omega
      subst e
      rw [List.drop_length] at w'
      exact .inl ⟨J'.2, r.nx F' H' σ' ρ' (u1.trans u') S' w'⟩
theorem pps_for {X : Cx} {tg iter : Expr} {body : List Stmt} {wi : TI} {Ti : TAp} {g : TG} {Gp : TGp} {is : List Nat} {tb : TS} {Tb : TSp} {pos : Pos} (hp : PassesOwn (model X.prog X.w) X.A X.env X.xe) (hc : X.calm = true) (hi : PPI X tg iter wi Ti) (hg : PTg X tg g Gp is) (hb : PPSs X body tb Tb)
    (hs : ∀ x, foldedSetIterable iter X.env x = pure x := by intro _; rfl) : PPS X (.For tg iter body [] pos) (tFor wi g tb) (pFor Ti Gp Tb) := ⟨ps_for hp hc hi.pi hg.pg hb.ps hs, snd_for hi.snd hg.snd hb.snd⟩
end Pl
namespace Pl
open PySem PySem.Spec PyProof.Rows L2
variable [TJ]
def valOnly : Option (Option Cell) → Option Cell
  | some (some (.val d)) => some (.val d)
  | _ => none
def wipeP (ρ : Ro) : List Nat → Ro
  | [] => ρ
  | v :: vs => (wipeP ρ vs).set v none
def restore (ρ0 ρ : Ro) : List Nat → Ro
  | [] => ρ
  | v :: vs => (restore ρ0 ρ vs).set v (valOnly ρ0[v]?)
theorem wipe_get {σ : L2.St} : ∀ {vs : List Nat} {j : Nat}, (wipe σ vs)[j]? = if j ∈ vs ∧ j < σ.length then some none else σ[j]?
  | [], j => by simp [wipe]
  | v :: vs, j => by
    show ((wipe σ vs).set v none)[j]? = _
    by_cases h : v = j
    · subst h
      by_cases hl : v < σ.length
      · rw [List.getElem?_set_self (by rw [wipe_length]; exact hl), if_pos ⟨by simp, hl⟩]
      · rw [List.getElem?_eq_none (by simp [wipe_length]; omega), if_neg (fun q => hl q.2), List.getElem?_eq_none (by omega)]
    · rw [List.getElem?_set_ne h, wipe_get]
      have e : (j ∈ v :: vs) ↔ j ∈ vs := by
        constructor
        · intro q
          rcases List.mem_cons.mp q with q | q
          · exact absurd q.symm h
          · exact q
        · exact List.mem_cons_of_mem _
      simp only [e]
theorem wipe_eq {σ σ2 : L2.St} {vs : List Nat} (hl : σ2.length = σ.length) (h : ∀ j, j ∉ vs → σ2[j]? = (wipe σ vs)[j]?) : wipe σ2 vs = wipe σ vs := by
  apply List.ext_getElem?
  intro j
  rw [wipe_get, wipe_get]
  by_cases hj : j ∈ vs
  · by_cases hlt : j < σ.length
    · rw [if_pos ⟨hj, by omega⟩, if_pos ⟨hj, hlt⟩]
    · rw [if_neg (fun q => hlt (by omega)), if_neg (fun q => hlt q.2), List.getElem?_eq_none (by omega), List.getElem?_eq_none (by omega)]
  · have e := h j hj
    rw [wipe_get, if_neg (fun q => hj q.1)] at e
    rw [if_neg (fun q => hj q.1), if_neg (fun q => hj q.1)]
    exact e
section
variable {K : PySem.W.Frag} {G F H : Hp} {σ : L2.St} {ρ : Ro}
theorem Sim.wipe (S : Sim K G F H σ ρ) : ∀ vs : List Nat, Sim K G F H (L2.wipe σ vs) (wipeP ρ vs)
  | [] => S
  | v :: vs => (Sim.wipe S vs).forget v none
theorem Sim.updFree (S : Sim K G F H σ ρ) {p : Addr} {vs ws : List V} (hH : H p = some (.lst vs)) (hF : F p = none) (hG : G p = none) (hn : NotOwn ρ p) : Sim K G F (upd H p (.lst ws)) σ ρ where
  hF := fun a x e => by rw [upd_ne (ne_of_none e hF)]; exact S.hF a x e
  hG := S.hG.mut hG hH
  len := S.len
  val := S.val
  own := fun i a xs e => by
    obtain ⟨h1, h2, h3, vs, h4, h5⟩ := S.own i a xs e
    have q : a ≠ p := fun z => by subst z; exact hn.1 i xs e
    exact ⟨h1, h2, h3, vs, by rw [upd_ne q]; exact h4, h5⟩
  ne := S.ne
  bx := S.bx.upd' hn.2
theorem Sim.guard (S : Sim K G F H σ ρ) {p : Addr} {vs : List V} (hH : H p = some (.lst vs)) (hn : NotOwn ρ p) : Sim K (upd G p (.lst vs)) F H σ ρ where
  hF := S.hF
  hG := S.hG.guard hH
  len := S.len
  val := S.val
  own := fun i a xs e => by
    obtain ⟨h1, h2, h3, h4⟩ := S.own i a xs e
    have q : a ≠ p := fun z => by subst z; exact hn.1 i xs e
    exact ⟨h1, h2, by rw [upd_ne q]; exact h3, h4⟩
  ne := S.ne
  bx := S.bx.guard hn.2
theorem Sim.unguard {G' : Hp} (S : Sim K G' F H σ ρ) (h : Same G G') : Sim K G F H σ ρ where
  hF := S.hF
  hG := S.hG.less h
  len := S.len
  val := S.val
  own := fun i a xs e => by
    obtain ⟨h1, h2, h3, h4⟩ := S.own i a xs e
    exact ⟨h1, h2, h.free h3, h4⟩
  ne := S.ne
  bx := S.bx.unguard h
theorem restore_len (ρ0 ρ : Ro) : ∀ vs : List Nat, (restore ρ0 ρ vs).length = ρ.length
  | [] => rfl
  | v :: vs => by simp [restore, restore_len ρ0 ρ vs]
theorem restore_get {ρ0 ρ : Ro} {c : Cell} : ∀ {vs : List Nat} {j : Nat}, (restore ρ0 ρ vs)[j]? = some (some c) → (j ∈ vs ∧ ∃ d, c = .val d ∧ ρ0[j]? = some (some (.val d))) ∨ (j ∉ vs ∧ ρ[j]? = some (some c))
  | [], j, h => .inr ⟨by simp, h⟩
  | v :: vs, j, h => by
    by_cases hv : v = j
    · subst hv
      refine .inl ⟨by simp, ?_⟩
      have hl : v < (restore ρ0 ρ vs).length := by
        have := lt_of_get h
        simpa [restore] using this
      have h' : ((restore ρ0 ρ vs).set v (valOnly ρ0[v]?))[v]? = some (some c) := h
      rw [List.getElem?_set_self hl] at h'
      have h'' : valOnly ρ0[v]? = some c := Option.some.inj h'
      cases e : ρ0[v]? with
      | none => rw [e] at h''; cases h''
      | some x =>
        rw [e] at h''
        cases x with
        | none => cases h''
        | some y =>
          cases y with
          | val d => cases h''; exact ⟨d, rfl, rfl⟩
          | own a xs => cases h''
          | box t => cases h''
    · have h' : ((restore ρ0 ρ vs).set v (valOnly ρ0[v]?))[j]? = some (some c) := h
      rw [List.getElem?_set_ne hv] at h'
      rcases restore_get h' with ⟨q, r⟩ | ⟨q, r⟩
      · exact .inl ⟨List.mem_cons_of_mem _ q, r⟩
      · refine .inr ⟨fun z => ?_, r⟩
        rcases List.mem_cons.mp z with z | z
        · exact hv z.symm
        · exact q z
theorem Sim.restore {G' F1 H1 : Hp} {σ2 : L2.St} {ρ2 : Ro} {vs : List Nat} (S : Sim K G F H σ ρ) (S2 : Sim K G' F1 H1 σ2 ρ2) (hG : Same G G') (hF : Same F F1) (hl : σ2.length = σ.length) (hj : ∀ j, j ∉ vs → σ2[j]? = σ[j]?) : Sim K G F1 H1 σ (restore ρ ρ2 vs) where
  hF := S2.hF
  hG := S2.hG.less hG
  len := by rw [restore_len, ← S2.len, hl]
  val := fun i d e => by
    rcases restore_get e with ⟨q, d', e', r⟩ | ⟨q, r⟩
    · cases e'
      obtain ⟨v, h1, h2⟩ := S.val i d r
      exact ⟨v, h1, h2.mono hF⟩
    · obtain ⟨v, h1, h2⟩ := S2.val i d r
      exact ⟨v, (hj i q).symm.trans h1, h2⟩
  own := fun i a xs e => by
    rcases restore_get e with ⟨q, d', e', r⟩ | ⟨q, r⟩
    · cases e'
    · obtain ⟨h1, h2, h3, h4⟩ := S2.own i a xs r
      exact ⟨(hj i q).symm.trans h1, h2, hG.free h3, h4⟩
  ne := fun i j a xs ys e1 e2 => by
    rcases restore_get e1 with ⟨_, _, e', _⟩ | ⟨_, r1⟩
    · cases e'
    · rcases restore_get e2 with ⟨_, _, e', _⟩ | ⟨_, r2⟩
      · cases e'
      · exact S2.ne i j a xs ys r1 r2
  bx := S2.bx.to (.refl _) (fun p m => ⟨(S2.bx.free m).1, hG.free (S2.bx.free m).2.1, rfl⟩) (fun i s e => by
    rcases restore_get e with ⟨_, _, e', _⟩ | ⟨q, r⟩
    · cases e'
    · exact ⟨r, (hj i q).symm⟩) fun i a xs e => by
    rcases restore_get e with ⟨_, _, e', _⟩ | ⟨q, r⟩
    · cases e'
    · exact .inl ⟨i, xs, r⟩
theorem restore_box {ρ0 ρ : Ro} {vs : List Nat} {p : Addr} : InBox (restore ρ0 ρ vs) p → InBox ρ p := fun ⟨i, s, e, m⟩ => by
  rcases restore_get e with ⟨_, _, e', _⟩ | ⟨q, r⟩
  · cases e'
  · exact ⟨i, s, r, m⟩
end
def lcW (vs : List Nat) (g : TGp) (tt : TTp) (te : TEp) (Q : List D → Ro → Prop) : List D → List D → Ro → Prop
  | [], acc, ρ => Q acc ρ
  | d :: ds, acc, ρ => g d (wipeP ρ vs) fun ρ2 => tt ρ2 fun b ρ3 => if b = true then te ρ3 fun y ρ4 => acc.length < sizeLine ∧ lcW vs g tt te Q ds (acc ++ [y]) (restore ρ ρ4 vs) else lcW vs g tt te Q ds acc (restore ρ ρ3 vs)
def pLcO (Ti : TAp) (g : TGp) (tt : TTp) (te : TEp) (vs : List Nat) : TCp := fun ρ Q => Ti ρ fun ds ρ1 => lcW vs g tt te (fun acc ρ2 => ∀ a, Q (.own a acc) ρ2) ds [] ρ1
def pLc (Ti : TAp) (g : TGp) (tt : TTp) (te : TEp) (vs : List Nat) : TEp := fun ρ Q => Ti ρ fun ds ρ1 => lcW vs g tt te (fun acc ρ2 => Q (.lst acc) ρ2) ds [] ρ1
theorem snd_lc {K : PySem.W.Frag} {wi : TI} {Ti : TAp} {g : TG} {Gp : TGp} {is : List Nat} {tt : TT} {Tt : TTp} {te : TE} {Te : TEp} {vs : List Nat} (hi : SndI K wi Ti) (hg : SndG K g Gp is) (ht : SndT K tt Tt) (he : SndE K te Te) (hsub : ∀ i ∈ is, i ∈ vs) : SndC K (tLc wi g tt te vs) (pLcO Ti Gp Tt Te vs) := fun G F H σ ρ Q R S h k =>
  hi G F H σ ρ _ _ S h fun J ds F1 H1 ρ1 u1 S1 J1 w1 => fun D hD => by
    refine ⟨fun i m H' => m + i = ds.length ∧ ∃ F' ρ' acc, Up G F1 F' ∧ Sim K G F' H' (σ ++ [some (.ref D)]) (ρ' ++ [some (.own D acc)]) ∧ lcW vs Gp Tt Te (fun acc ρ2 => ∀ a, Q (.own a acc) ρ2) (ds.drop i) acc ρ', ⟨ds.length, by omega, F1, ρ1, [], .refl _ _, S1.newOwn hD .nil, w1⟩, fun i m H' hW => ?_⟩
    obtain ⟨hm, F', ρ', acc, u', S0, w'⟩ := hW
    have S' := S0.drop
    obtain ⟨_, hFD, hGD, hnD, av, hHD, rD⟩ := S0.lastOwn
    have J' := J1 F' H' u'.ex S'.hF
    by_cases hlt : i < ds.length
    · refine .inr ⟨(J'.1 i ds[i] (List.getElem?_eq_getElem hlt)).1, fun H'' => ∃ F'' ρ'' acc, Up G F1 F'' ∧ Sim K G F'' H'' (σ ++ [some (.ref D)]) (ρ'' ++ [some (.own D acc)]) ∧ lcW vs Gp Tt Te (fun acc ρ2 => ∀ a, Q (.own a acc) ρ2) (ds.drop (i + 1)) acc ρ'', fun H'' q => ⟨m - 1, by omega, by omega, q⟩, fun x H'' hy => ?_⟩
      obtain ⟨F2, res⟩ := (J'.1 i ds[i] (List.getElem?_eq_getElem hlt)).2 x H'' hy
      have Sg : Sim K (upd G D (.lst av)) F' H' σ ρ' := S'.guard hHD hnD
      obtain ⟨u2, S2, r2⟩ := Sg.res res
      have hGG : Same G (upd G D (.lst av)) := same_new hGD
      rw [List.drop_eq_getElem_cons hlt] at w'
      refine hg (upd G D (.lst av)) F2 H'' (wipe σ vs) (wipeP ρ' vs) _ _ x _ (S2.wipe vs) r2 w' fun F3 H3 σ3 ρ3 u3 S3 o3 l3 q3 => ?_
      have hl3 : σ3.length = σ.length := by rw [l3, wipe_length]
      have ho3 : ∀ j, j ∉ vs → σ3[j]? = (wipe σ vs)[j]? := fun j hj => o3 j fun z => hj (hsub j z)
      have hoσ : ∀ j, j ∉ vs → σ3[j]? = σ[j]? := fun j hj => by rw [ho3 j hj, wipe_get, if_neg (fun q => hj q.1)]
      refine ⟨wipe_eq hl3 ho3, ht (upd G D (.lst av)) F3 H3 σ3 ρ3 _ _ S3 q3 fun b F4 H4 ρ4 u4 S4 q4 => ?_⟩
      cases b with
      | true =>
        refine ite_ti (he (upd G D (.lst av)) F4 H4 σ3 ρ4 _ _ S4 (ite_t q4) fun y dy F5 H5 ρ5 u5 S5 r5 q5 => ?_)
        have up := ((u2.trans u3).trans u4).trans u5
        have hH5 : H5 D = some (.lst av) := S5.hG D _ upd_same
        have hF5 : F5 D = none := up.isNone hFD upd_same
        have S6 : Sim K G F5 H5 σ (Pl.restore ρ' ρ5 vs) := S'.restore S5 hGG up.ex hl3 hoσ
        have hn6 : NotOwn (Pl.restore ρ' ρ5 vs) D := ⟨fun j xs e => (by
          rcases restore_get e with ⟨_, _, e', _⟩ | ⟨_, r⟩
          · cases e'
          · have := (S5.own j D xs r).2.2.1
            rw [upd_same] at this; cases this), fun m => S5.bx.notG upd_same (restore_box m)⟩
        have r6 : Reps K F5 (av ++ [y]) (acc ++ [dy]) := (rD.mono up.ex).append (.one r5)
        refine ⟨av, hH5, by rw [rD.length]; exact q5.1, F5, _, acc ++ [dy], u'.trans (up.less hGG), ?_, q5.2⟩
        exact (S6.updFree hH5 hF5 hGD hn6).pushOwn upd_same hF5 hGD hn6 r6
      | false =>
        refine ite_fi ⟨F4, _, acc, u'.trans (((u2.trans u3).trans u4).less hGG), ?_, ite_f q4⟩
        have up := (u2.trans u3).trans u4
        have hH4 : H4 D = some (.lst av) := S4.hG D _ upd_same
        have hF4 : F4 D = none := up.isNone hFD upd_same
        have S6 : Sim K G F4 H4 σ (Pl.restore ρ' ρ4 vs) := S'.restore S4 hGG up.ex hl3 hoσ
        have hn6 : NotOwn (Pl.restore ρ' ρ4 vs) D := ⟨fun j xs e => (by
          rcases restore_get e with ⟨_, _, e', _⟩ | ⟨_, r⟩
          · cases e'
          · have := (S4.own j D xs r).2.2.1
            rw [upd_same] at this; cases this), fun m => S4.bx.notG upd_same (restore_box m)⟩
        exact S6.pushOwn hH4 hF4 hGD hn6 (rD.mono up.ex)
    · have e : i = ds.length := by omega
      subst e
      rw [List.drop_length] at w'
      exact .inl ⟨J'.2, k _ _ F' H' ρ' (u1.trans u') S0 (w' D)⟩
structure PPTs (X : Cx) (ifs : List Expr) (t : TT) (T : TTp) : Prop where
  pt : PTs X ifs t
  snd : SndT X.K t T
def pYes : TTp := fun ρ Q => Q true ρ
theorem ppts_nil {X : Cx} : PPTs X [] tYes pYes := ⟨pts_nil, fun G F H σ ρ Q R S h k => k true F H ρ (.refl _ _) S h⟩
theorem ppts_one {X : Cx} {c : Expr} {t : TT} {T : TTp} (h : PPT X c t T) : PPTs X [c] t T := ⟨pts_one h.pt, h.snd⟩
section
variable {X : Cx} {elt tg iter : Expr} {ifs : List Expr} {scope : Scope} {own : List (Str × Nat)} {pos : Pos} {wi : TI} {Ti : TAp} {g : TG} {Gp : TGp} {is : List Nat} {tt : TT} {Tt : TTp} {te : TE} {Te : TEp} {vs : List Nat}
theorem ppc_lc (hc : X.calm = true) (hN : X.N.Nodup) (hi : PPI X tg iter wi Ti) (ok : BlkOk X.N X.env.scope scope own)
    (hg : ∀ (s : Shared) (H : Hp) (C : Addr) (cl : List (Str × Addr)) (fp : List Addr), PTg (X.blk s H scope (compEnvC scope cl C X.env) fp) tg g Gp is) (ht : ∀ (s : Shared) (H : Hp) (C : Addr) (cl : List (Str × Addr)) (fp : List Addr), PPTs (X.blk s H scope (compEnvC scope cl C X.env) fp) ifs tt Tt)
    (he : ∀ (s : Shared) (H : Hp) (C : Addr) (cl : List (Str × Addr)) (fp : List Addr), PPE (X.blk s H scope (compEnvC scope cl C X.env) fp) elt te Te) (hs : ∀ x, foldedSetIterable iter X.env x = pure x := by intro _; rfl) (hsub : ∀ i ∈ is, i ∈ own.map (·.2) := by decide) :
    PPC X (.ListComp elt [⟨tg, iter, ifs, 0⟩] scope pos) (tLc wi g tt te (own.map (·.2))) (pLcO Ti Gp Tt Te (own.map (·.2))) := by
  refine ⟨pe_lc hc hN hi.pi ok (fun s H C cl fp => (hg s H C cl fp).pg) (fun s H C cl fp => (ht s H C cl fp).pt) (fun s H C cl fp => (he s H C cl fp).pe) hs, ?_⟩
  exact snd_lc hi.snd (hg X.s_0 (fun _ => none) 0 [] []).snd (ht X.s_0 (fun _ => none) 0 [] []).snd (he X.s_0 (fun _ => none) 0 [] []).snd hsub
theorem snd_lcV {K : PySem.W.Frag} {t : TE} (h : SndC K t (pLcO Ti Gp Tt Te vs)) : SndE K t (pLc Ti Gp Tt Te vs) := fun G F H σ ρ Q R S hT k => h G F H σ ρ (fun c ρ' => Q c.froz ρ') R S (by
    unfold pLcO
    unfold pLc at hT
    have e : (fun (acc : List D) (ρ2 : Ro) => ∀ a : Addr, Q (Cell.froz (.own a acc)) ρ2) = fun acc ρ2 => Q (.lst acc) ρ2 := by
      funext acc ρ2
      exact propext ⟨fun q => q 0, fun q _ => q⟩
    show Ti ρ fun ds ρ1 => lcW vs Gp Tt Te (fun acc ρ2 => ∀ a : Addr, Q (Cell.froz (.own a acc)) ρ2) ds [] ρ1
    rw [e]
    exact hT) fun v c F' H' ρ' u S' q => by
  obtain ⟨F2, u2, S2, r2⟩ := S'.froz
  exact k v _ F2 H' ρ' (u.trans u2) S2 r2 q
theorem ppe_lc (hc : X.calm = true) (hN : X.N.Nodup) (hi : PPI X tg iter wi Ti) (ok : BlkOk X.N X.env.scope scope own)
    (hg : ∀ (s : Shared) (H : Hp) (C : Addr) (cl : List (Str × Addr)) (fp : List Addr), PTg (X.blk s H scope (compEnvC scope cl C X.env) fp) tg g Gp is) (ht : ∀ (s : Shared) (H : Hp) (C : Addr) (cl : List (Str × Addr)) (fp : List Addr), PPTs (X.blk s H scope (compEnvC scope cl C X.env) fp) ifs tt Tt)
    (he : ∀ (s : Shared) (H : Hp) (C : Addr) (cl : List (Str × Addr)) (fp : List Addr), PPE (X.blk s H scope (compEnvC scope cl C X.env) fp) elt te Te) (hs : ∀ x, foldedSetIterable iter X.env x = pure x := by intro _; rfl) (hsub : ∀ i ∈ is, i ∈ own.map (·.2) := by decide) :
    PPE X (.ListComp elt [⟨tg, iter, ifs, 0⟩] scope pos) (tLc wi g tt te (own.map (·.2))) (pLc Ti Gp Tt Te (own.map (·.2))) := by
  have h := ppc_lc (pos := pos) hc hN hi ok hg ht he hs hsub
  exact ⟨h.pe, snd_lcV h.snd⟩
theorem pps_setLc {i : Nat} {y : Str} {py spos : Pos} (hc : X.calm = true) (hN : X.N.Nodup) (hi : PPI X tg iter wi Ti) (ok : BlkOk X.N X.env.scope scope own)
    (hg : ∀ (s : Shared) (H : Hp) (C : Addr) (cl : List (Str × Addr)) (fp : List Addr), PTg (X.blk s H scope (compEnvC scope cl C X.env) fp) tg g Gp is) (ht : ∀ (s : Shared) (H : Hp) (C : Addr) (cl : List (Str × Addr)) (fp : List Addr), PPTs (X.blk s H scope (compEnvC scope cl C X.env) fp) ifs tt Tt)
    (he : ∀ (s : Shared) (H : Hp) (C : Addr) (cl : List (Str × Addr)) (fp : List Addr), PPE (X.blk s H scope (compEnvC scope cl C X.env) fp) elt te Te)
    (hy : X.N[i]? = some y := by rfl) (hyl : X.env.scope.names.lookup y = some .local := by rfl)
    (hsw : swapsWith (.ListComp elt [⟨tg, iter, ifs, 0⟩] scope pos) (some (.Name y py)) spos.line X.env = pure true := by exact sw_true rfl rfl rfl (by decide +kernel)) (hs : ∀ x, foldedSetIterable iter X.env x = pure x := by intro _; rfl) (hsub : ∀ i ∈ is, i ∈ own.map (·.2) := by decide) :
    PPS X (.Assign [.Name y py] (.ListComp elt [⟨tg, iter, ifs, 0⟩] scope pos) spos) (tAsg (tLc wi g tt te (own.map (·.2))) (gName i)) (pSet i (pLcO Ti Gp Tt Te (own.map (·.2)))) := by
  have h := ppc_lc (pos := pos) hc hN hi ok hg ht he hs hsub
  exact ⟨ps_setLc hc hN hy hyl hsw hi.pi ok (fun s H C cl fp => (hg s H C cl fp).pg) (fun s H C cl fp => (ht s H C cl fp).pt) (fun s H C cl fp => (he s H C cl fp).pe) hs, snd_set h.snd⟩
end
end Pl
namespace Pl
open PySem PySem.Spec PyProof.Rows L2
variable [TJ]
section
variable {X : Cx} {a b : Expr} {ta tb : TE} {Ta Tb : TEp} {pos : Pos}
theorem Reps.atI {K : PySem.W.Frag} {F : Hp} {vs : List V} {ds : List D} {i : Int} {d : D} (r : Reps K F vs ds) (h : atI ds i = some d) : ∃ v, L2.atI vs i = some v ∧ Rep K F v d := by
  unfold L2.atI at h ⊢
  rw [r.length]
  cases e : ixN ds.length i with
  | none => rw [e] at h; cases h
  | some j => rw [e] at h; exact r.get h
theorem atI_ints {ns : List Int} {i n : Int} (h : L2.atI ns i = some n) : L2.atI (ns.map V.int) i = some (V.int n) := by
  unfold L2.atI at h ⊢
  rw [List.length_map]
  cases e : ixN ns.length i with
  | none => rw [e] at h; cases h
  | some j =>
    rw [e] at h
    show (ns.map V.int)[j]? = some (V.int n)
    have h' : ns[j]? = some n := h
    rw [List.getElem?_map, h']; rfl
def rIxA (K : PySem.W.Frag) : R2 := fun x y H Q => rIxL K x y H Q ∨ (rIxT K x y H Q ∨ rIxS x y H Q)
theorem ix_any : IxR X (rIxA X.K) := IxR.or ix_list (IxR.or ix_tup ix_str)
def fIx : F2 := fun x y Q => match x, y with
  | .lst xs, .int i => ∃ v, atI xs i = some v ∧ Q v
  | .tup xs, .int i => ∃ v, atI xs i = some v ∧ Q v
  | .scr ns, .int i => ∃ n, atI ns i = some n ∧ Q (.int n)
  | .str z, .int i => z.length ≤ sizeLine ∧ ∃ c, atI z.cps.toList i = some c ∧ Q (.str ⟨#[c]⟩)
  | _, _ => False
theorem opp_ix {K : PySem.W.Frag} : OpP K (rIxA K) fIx := fun F H x y dx dy Q R hs rx ry hf k => by
  cases rx with
  | lst h1 r1 =>
    cases ry with
    | int i =>
      obtain ⟨d, e, q⟩ := hf
      obtain ⟨v, e', r⟩ := r1.atI e
      exact .inl ⟨_, _, i, v, rfl, rfl, SqL.of (hs _ _ h1), e', k _ _ _ _ (.old r) q⟩
    | _ => exact hf.elim
  | tup h1 r1 =>
    cases ry with
    | int i =>
      obtain ⟨d, e, q⟩ := hf
      obtain ⟨v, e', r⟩ := r1.atI e
      exact .inr (.inl ⟨_, _, i, v, rfl, rfl, SqT.of (hs _ _ h1), e', k _ _ _ _ (.old r) q⟩)
    | _ => exact hf.elim
  | scr h1 =>
    cases ry with
    | int i =>
      obtain ⟨n, e, q⟩ := hf
      exact .inl ⟨_, _, i, _, rfl, rfl, hs.seq h1, atI_ints e, k _ _ _ _ (.old (.int _)) q⟩
    | _ => exact hf.elim
  | str z =>
    cases ry with
    | int i =>
      obtain ⟨hz, c, e, q⟩ := hf
      exact .inr (.inr ⟨z, i, c, rfl, rfl, hz, e, k _ _ _ _ (.old (.str _)) q⟩)
    | _ => exact hf.elim
  | _ => exact hf.elim
theorem ppe_ix (ha : PPE X a ta Ta) (hb : PPE X b tb Tb) (hs : PlainIx b := by exact fun _ _ => rfl) : PPE X (.Subscript a b pos) (tOp (rIxA X.K) ta tb) (pOp fIx Ta Tb) := ⟨pe_ix ix_any ha.pe hb.pe hs, snd_op opp_ix ha.snd hb.snd⟩
def pIxO (i : Nat) (Tb : TEp) : TEp := fun ρ Q => match ρ[i]? with
  | some (some (.own a _)) => Tb ρ fun y ρ1 => ∃ xs1 k v, ρ1[i]? = some (some (.own a xs1)) ∧ y = .int k ∧ atI xs1 k = some v ∧ Q v ρ1
  | some (some (.val d)) => Tb ρ fun y ρ1 => fIx d y fun z => Q z ρ1
  | _ => False
theorem ppe_ixO (i : Nat) {x : Str} {p : Pos} (hb : PPE X b tb Tb) (hs : PlainIx b := by exact fun _ _ => rfl) (hN : X.N[i]? = some x := by rfl) (hv : Vis X.env.scope x := by first | exact Or.inl rfl | exact Or.inr (Or.inl rfl) | exact Or.inr (Or.inr rfl)) (hd : (x == ("__debug__" : Str)) = false := by decide)
    (hcd : (x == ("__classdict__" : Str)) = false := by decide) : PPE X (.Subscript (.Name x p) b pos) (tOp (rIxA X.K) (tVar i) tb) (pIxO i Tb) := ⟨pe_ix ix_any (pe_var hN hv hd hcd) hb.pe hs, fun G F H σ ρ Q R S hT k => by
  unfold pIxO at hT
  split at hT
  · rename_i a xs e
    refine ⟨.ref a, (S.own i a xs e).1, hb.snd G F H σ ρ _ _ S hT fun y dy F1 H1 ρ1 u1 S1 r1 q1 => ?_⟩
    obtain ⟨xs1, kk, v, e1, rfl, e2, q⟩ := q1
    obtain ⟨h1, h2, h3, vs, h4, h5⟩ := S1.own i a xs1 e1
    obtain ⟨w, ew, rw'⟩ := h5.atI e2
    cases r1
    exact .inl ⟨a, vs, kk, w, rfl, rfl, SqL.of h4, ew, k _ _ F1 H1 ρ1 u1 S1 rw' q⟩
  · rename_i d e
    obtain ⟨v, h1, h2⟩ := S.val i d e
    refine ⟨v, h1, hb.snd G F H σ ρ _ _ S hT fun y dy F1 H1 ρ1 u1 S1 r1 q1 => ?_⟩
    refine opp_ix F1 H1 v y d dy _ _ S1.hF (h2.mono u1.ex) r1 q1 fun w dw F2 H2 res q => ?_
    obtain ⟨u2, S2, r2⟩ := S1.res res
    exact k w dw F2 H2 ρ1 (u1.trans u2) S2 r2 q
  · exact hT.elim⟩
theorem Reps.cut {K : PySem.W.Frag} {F : Hp} {vs : List V} {ds : List D} (r : Reps K F vs ds) (lo hi : Option Int) : Reps K F (cutV vs lo hi) ((ds.drop (HT.sIx ds.length 0 lo)).take (HT.sIx ds.length ds.length hi - HT.sIx ds.length 0 lo)) := by
  unfold cutV
  rw [r.length]
  exact (r.drop _).take _
def cutD (xs : List D) (lo hi : Option Int) : List D := (xs.drop (HT.sIx xs.length 0 lo)).take (HT.sIx xs.length xs.length hi - HT.sIx xs.length 0 lo)
def rSlX (K : PySem.W.Frag) : V → Option Int → Option Int → Hp → VK → Prop := fun x lo hi H Q => rSlL K x lo hi H Q ∨ rSlA K x lo hi H Q
theorem sl_any : SlR X (rSlX X.K) := SlR.or sl_list sl_tupA
abbrev TOp := Ro → (Option Int → Ro → Prop) → Prop
def pNoPart : TOp := fun ρ Q => Q none ρ
def pPart (T : TEp) : TOp := fun ρ Q => T ρ fun x ρ1 => match x with | .int i => Q (some i) ρ1 | _ => False
def SndO (K : PySem.W.Frag) (t : TO) (T : TOp) : Prop := ∀ (G F H : Hp) (σ : L2.St) (ρ : Ro) (Q : Option Int → Ro → Prop) (R : Option Int → Hp → Prop), Sim K G F H σ ρ → T ρ Q →
  (∀ o F' H' ρ', Up G F F' → Sim K G F' H' σ ρ' → Q o ρ' → R o H') → t σ H R
structure PPO (X : Cx) (e : Option Expr) (t : TO) (T : TOp) : Prop where
  po : PO X e t
  snd : SndO X.K t T
theorem ppo_none : PPO X none tNoPart pNoPart := ⟨po_none, fun G F H σ ρ Q R S h k => k none F H ρ (.refl _ _) S h⟩
theorem ppo_some (h : PPE X a ta Ta) : PPO X (some a) (tPart ta) (pPart Ta) := ⟨po_some h.pe, fun G F H σ ρ Q R S hT k => h.snd G F H σ ρ _ _ S hT fun v d F' H' ρ' u S' r q => by
  cases r with
  | int i => exact ⟨i, rfl, k _ F' H' ρ' u S' q⟩
  | _ => exact q.elim⟩
def fSl (x : D) (lo hi : Option Int) (Q : D → Prop) : Prop := match x with
  | .lst xs => Q (.lst (cutD xs lo hi))
  | .tup xs => Q (.tup (cutD xs lo hi))
  | _ => False
theorem cutD_all {xs : List D} {lo hi : Option Int} (h : HT.sIx xs.length 0 lo = 0 ∧ HT.sIx xs.length xs.length hi = xs.length) : cutD xs lo hi = xs := by
  unfold cutD
  rw [h.1, h.2]
  simp
def pSl (Te : TEp) (Tl Th : TOp) : TEp := fun ρ Q => Te ρ fun x ρ1 => Tl ρ1 fun l ρ2 => Th ρ2 fun u ρ3 => fSl x l u fun z => Q z ρ3
theorem ppe_slice {lo hi : Option Expr} {tl th : TO} {Tl Th : TOp} {p2 : Pos} (ha : PPE X a ta Ta) (hl : PPO X lo tl Tl) (hh : PPO X hi th Th) : PPE X (.Subscript a (.Slice lo hi none p2) pos) (tSl (rSlX X.K) ta tl th) (pSl Ta Tl Th) := ⟨pe_slice sl_any ha.pe hl.po hh.po, fun G F H σ ρ Q R S hT k =>
  ha.snd G F H σ ρ _ _ S hT fun v d F1 H1 ρ1 u1 S1 r1 q1 => hl.snd G F1 H1 σ ρ1 _ _ S1 q1 fun l F2 H2 ρ2 u2 S2 q2 => hh.snd G F2 H2 σ ρ2 _ _ S2 q2 fun h F3 H3 ρ3 u3 S3 q3 => by
    have r3 := (r1.mono u2.ex).mono u3.ex
    have up := (u1.trans u2).trans u3
    cases r3 with
    | lst e r =>
      refine .inl ⟨_, _, rfl, SqL.of (S3.hF _ _ e), fun p hp => k _ _ _ _ ρ3 (up.trans (S3.upNew hp)) (S3.new hp) (.lst upd_same ((r.mono (same_new (S3.freshF hp))).cut l h)) q3⟩
    | tup e r =>
      refine .inr ⟨_, _, rfl, SqT.of (S3.hF _ _ e), fun hw => ?_, fun _ p hp => k _ _ _ _ ρ3 (up.trans (S3.upNew hp)) (S3.new hp) (.tup upd_same ((r.mono (same_new (S3.freshF hp))).cut l h)) q3⟩
      rw [r.length] at hw
      have q3' : Q _ ρ3 := q3
      rw [cutD_all hw] at q3'
      exact k _ _ F3 H3 ρ3 up S3 (.tup e r) q3'
    | _ => exact q3.elim⟩
def fRev (x : D) (Q : D → Prop) : Prop := match x with
  | .lst xs => Q (.lst xs.reverse)
  | .tup xs => Q (.tup xs.reverse)
  | _ => False
theorem ppe_rev {k : Nat} {p1 p2 p3 : Pos} (ha : PPE X a ta Ta) : PPE X (.Subscript a (.Slice none none (some (.UnaryOp .USub (.Constant (.int 1) k p1) p2)) p3) pos) (tRevA X.K ta) (pUn fRev Ta) := ⟨pe_revA ha.pe, fun G F H σ ρ Q R S hT kk =>
  ha.snd G F H σ ρ _ _ S hT fun v d F1 H1 ρ1 u1 S1 r1 q1 => by
    cases r1 with
    | lst e r => exact ⟨_, _, rfl, .inl ⟨SqL.of (S1.hF _ _ e), fun p hp => kk _ _ _ _ ρ1 (u1.trans (S1.upNew hp)) (S1.new hp) (.lst upd_same (r.mono (same_new (S1.freshF hp))).reverse) q1⟩⟩
    | tup e r => exact ⟨_, _, rfl, .inr ⟨SqT.of (S1.hF _ _ e), fun p hp => kk _ _ _ _ ρ1 (u1.trans (S1.upNew hp)) (S1.new hp) (.tup upd_same (r.mono (same_new (S1.freshF hp))).reverse) q1⟩⟩
    | _ => exact q1.elim⟩
abbrev FC := List D → (D → Prop) → Prop
theorem Reps.inv1 {K : PySem.W.Frag} {F : Hp} {vs : List V} {d : D} (r : Reps K F vs [d]) : ∃ v, vs = [v] ∧ Rep K F v d := by
  cases r with | cons h t => cases t; exact ⟨_, rfl, h⟩
theorem Rep.lstInv {K : PySem.W.Frag} {F : Hp} {v : V} {xs : List D} (r : Rep K F v (.lst xs)) : ∃ a vs, v = .ref a ∧ F a = some (.lst vs) ∧ Reps K F vs xs := by
  cases r with | lst e r => exact ⟨_, _, rfl, e, r⟩
theorem Rep.tupInv {K : PySem.W.Frag} {F : Hp} {v : V} {xs : List D} (r : Rep K F v (.tup xs)) : ∃ a vs, v = .ref a ∧ F a = some (.tup vs) ∧ Reps K F vs xs := by
  cases r with | tup e r => exact ⟨_, _, rfl, e, r⟩
theorem Rep.intInv {K : PySem.W.Frag} {F : Hp} {v : V} {i : Int} (r : Rep K F v (.int i)) : v = .int i := by cases r; rfl
theorem Rep.blInv {K : PySem.W.Frag} {F : Hp} {v : V} {i : Bool} (r : Rep K F v (.bl i)) : v = .bl i := by cases r; rfl
theorem Rep.strInv {K : PySem.W.Frag} {F : Hp} {v : V} {i : Str} (r : Rep K F v (.str i)) : v = .str i := by cases r; rfl
theorem Rep.scrInv {K : PySem.W.Frag} {F : Hp} {v : V} {ns : List Int} (r : Rep K F v (.scr ns)) : ∃ a, v = .ref a ∧ SqL K F a (ns.map V.int) := by cases r with | scr h => exact ⟨_, rfl, h⟩
def fLen : FC := fun ds Q => match ds with
  | [.lst xs] => Q (.int xs.length)
  | [.tup xs] => Q (.int xs.length)
  | [.scr ns] => Q (.int ns.length)
  | [.str z] => z.length ≤ sizeLine ∧ Q (.int z.length)
  | _ => False
def rLenA (K : PySem.W.Frag) : List V → Hp → VK → Prop := fun xs H Q => (∃ p ys, xs = [.ref p] ∧ (SqL K H p ys ∨ SqT K H p ys) ∧ Q (.int ys.length) H) ∨ (∃ z, xs = [.str z] ∧ z.length ≤ sizeLine ∧ Q (.int z.length) H)
theorem cr_lenA : CallR X (.builtin "len") (rLenA X.K) := CallR.or call_len_seq call_len_str
theorem cp_len {K : PySem.W.Frag} : CallP K (rLenA K) fLen := fun F H xs ds Q R hs r hf k => by
  unfold fLen at hf
  split at hf
  · obtain ⟨v, rfl, q1⟩ := r.inv1
    obtain ⟨a, vs, rfl, e, q2⟩ := q1.lstInv
    exact .inl ⟨a, vs, rfl, .inl (SqL.of (hs _ _ e)), by rw [q2.length]; exact k _ _ _ _ (.old (.int _)) hf⟩
  · obtain ⟨v, rfl, q1⟩ := r.inv1
    obtain ⟨a, vs, rfl, e, q2⟩ := q1.tupInv
    exact .inl ⟨a, vs, rfl, .inr (SqT.of (hs _ _ e)), by rw [q2.length]; exact k _ _ _ _ (.old (.int _)) hf⟩
  · obtain ⟨v, rfl, q1⟩ := r.inv1
    obtain ⟨a, rfl, e⟩ := q1.scrInv
    exact .inl ⟨a, _, rfl, .inl (hs.seq e), by rw [List.length_map]; exact k _ _ _ _ (.old (.int _)) hf⟩
  · obtain ⟨v, rfl, q1⟩ := r.inv1
    have := q1.strInv
    subst this
    exact .inr ⟨_, rfl, hf.1, k _ _ _ _ (.old (.int _)) hf.2⟩
  · exact hf.elim
def pLenO (i : Nat) : TEp := fun ρ Q => match ρ[i]? with
  | some (some (.own _ xs)) => Q (.int xs.length) ρ
  | some (some (.val d)) => fLen [d] fun z => Q z ρ
  | _ => False
theorem ppe_lenO (i : Nat) {x : Str} {p q : Pos} (hg : Gl X "len") (hm : X.mg "len" = none) (hN : X.N[i]? = some x := by rfl) (hv : Vis X.env.scope x := by first | exact Or.inl rfl | exact Or.inr (Or.inl rfl) | exact Or.inr (Or.inr rfl)) (hd : (x == ("__debug__" : Str)) = false := by decide)
    (hcd : (x == ("__classdict__" : Str)) = false := by decide) (he : starEach [.Name x q] X.env = [(false, eval (.Name x q) X.env)] := by rfl) : PPE X (.Call (.Name "len" p) [.Name x q] [] pos) (tCB (rLenA X.K) (tCons (tVar i) tNil)) (pLenO i) := ⟨pe_callB cr_lenA hg hm PySem.boot_len (pa_cons (pe_var hN hv hd hcd) pa_nil (by rw [he]; rfl)) (by decide) (by decide) (by rw [he]; rfl) rfl, fun G F H σ ρ Q R S hT k => by
  unfold pLenO at hT
  split at hT
  · rename_i a xs e
    obtain ⟨h1, h2, h3, vs, h4, h5⟩ := S.own i a xs e
    exact ⟨.ref a, h1, .inl ⟨a, vs, rfl, .inl (SqL.of h4), by rw [h5.length]; exact k _ _ F H ρ (.refl _ _) S (.int _) hT⟩⟩
  · rename_i d e
    obtain ⟨v, h1, h2⟩ := S.val i d e
    refine ⟨v, h1, ?_⟩
    refine cp_len F H [v] [d] _ _ S.hF (.cons h2 .nil) hT fun w dw F2 H2 res q => ?_
    obtain ⟨u2, S2, r2⟩ := S.res res
    exact k w dw F2 H2 ρ u2 S2 r2 q
  · exact hT.elim⟩
def iabs (i : Int) : Int := if i < 0 then -i else i
def fAbs : FC := fun ds Q => match ds with | [.int i] => Q (.int (iabs i)) | _ => False
theorem cp_abs {K : PySem.W.Frag} : CallP K (fun xs H Q => ∃ i, xs = [.int i] ∧ Q (.int (if i < 0 then -i else i)) H) fAbs := fun F H xs ds Q R hs r hf k => by
  unfold fAbs at hf
  split at hf
  · rw [r.int1]
    exact ⟨_, rfl, k _ _ _ _ (.old (.int _)) hf⟩
  · exact hf.elim
def fMin2 : FC := fun ds Q => match ds with | [.int i, .int j] => Q (.int (min i j)) | _ => False
def fMax2 : FC := fun ds Q => match ds with | [.int i, .int j] => Q (.int (max i j)) | _ => False
theorem cp_min2 {K : PySem.W.Frag} : CallP K (fun xs H Q => ∃ i j, xs = [.int i, .int j] ∧ Q (.int (if j < i then j else i)) H) fMin2 := fun F H xs ds Q R hs r hf k => by
  unfold fMin2 at hf
  split at hf
  · rename_i i j
    rw [r.int2]
    refine ⟨i, j, rfl, ?_⟩
    rw [show (if j < i then j else i) = min i j by split <;> omega]
    exact k _ _ _ _ (.old (.int _)) hf
  · exact hf.elim
theorem cp_max2 {K : PySem.W.Frag} : CallP K (fun xs H Q => ∃ i j, xs = [.int i, .int j] ∧ Q (.int (if j > i then j else i)) H) fMax2 := fun F H xs ds Q R hs r hf k => by
  unfold fMax2 at hf
  split at hf
  · rename_i i j
    rw [r.int2]
    refine ⟨i, j, rfl, ?_⟩
    rw [show (if j > i then j else i) = max i j by split <;> omega]
    exact k _ _ _ _ (.old (.int _)) hf
  · exact hf.elim
def bestDD (g : Int → Int → Int) (d : D) : List Int → D
  | [] => d
  | n :: ns => .int (ns.foldl g n)
def pDflt (g : Int → Int → Int) (Te Td : TEp) : TEp := fun ρ Q => Te ρ fun x ρ1 => Td ρ1 fun d ρ2 => match x with
  | .lst xs => ∃ ns, xs = ns.map D.int ∧ Q (bestDD g d ns) ρ2
  | _ => False
theorem snd_dflt {K : PySem.W.Frag} {g : Int → Int → Int} (ha : SndE K ta Ta) (hb : SndE K tb Tb) : SndE K (tDflt K g ta tb) (pDflt g Ta Tb) := fun G F H σ ρ Q R S hT k =>
  ha G F H σ ρ _ _ S hT fun v d F1 H1 ρ1 u1 S1 r1 q1 => hb G F1 H1 σ ρ1 _ _ S1 q1 fun w e F2 H2 ρ2 u2 S2 r2 q2 => by
    cases r1 with
    | lst h r =>
      obtain ⟨ns, rfl, q⟩ := q2
      have := r.ints
      subst this
      refine ⟨_, ns, rfl, SqL.of (S2.hF _ _ (u2.ex _ _ h)), k _ (bestDD g e ns) F2 H2 ρ2 (u1.trans u2) S2 ?_ q⟩
      cases ns with
      | nil => exact r2
      | cons n ns => exact .int _
    | _ => exact q2.elim
theorem ppe_maxD {p kp : Pos} (hg : Gl X "max") (hm : X.mg "max" = none) (hc : X.calm = true) (hu : X.A.units + 64 < cLine) (he : PPE X a ta Ta) (hd : PPE X b tb Tb) (hs : starEach [a] X.env = [(false, eval a X.env)] := by rfl) : PPE X (.Call (.Name "max" p) [a] [⟨some "default", b, kp⟩] pos) (tDflt X.K max ta tb) (pDflt max Ta Tb) := ⟨pe_maxDflt hg hm hc hu he.pe hd.pe hs, snd_dflt he.snd hd.snd⟩
theorem ppe_minD {p kp : Pos} (hg : Gl X "min") (hm : X.mg "min" = none) (hc : X.calm = true) (hu : X.A.units + 64 < cLine) (he : PPE X a ta Ta) (hd : PPE X b tb Tb) (hs : starEach [a] X.env = [(false, eval a X.env)] := by rfl) : PPE X (.Call (.Name "min" p) [a] [⟨some "default", b, kp⟩] pos) (tDflt X.K min ta tb) (pDflt min Ta Tb) := ⟨pe_minDflt hg hm hc hu he.pe hd.pe hs, snd_dflt he.snd hd.snd⟩
def fInt1 : FC := fun ds Q => match ds with
  | [.int i] => Q (.int i)
  | [.bl b] => Q (.int (if b = true then 1 else 0))
  | _ => False
theorem cp_int1 {K : PySem.W.Frag} : CallP K (fun xs H Q => (∃ i, xs = [.int i] ∧ Q (.int i) H) ∨ ∃ k, xs = [.bl k] ∧ Q (.int (if k then 1 else 0)) H) fInt1 := fun F H xs ds Q R hs r hf k => by
  unfold fInt1 at hf
  split at hf
  · rw [r.int1]; exact .inl ⟨_, rfl, k _ _ _ _ (.old (.int _)) hf⟩
  · obtain ⟨v, rfl, q1⟩ := r.inv1
    have := q1.blInv
    subst this
    exact .inr ⟨_, rfl, k _ _ _ _ (.old (.int _)) hf⟩
  · exact hf.elim
def fAll : FC := fun ds Q => match ds with | [.lst xs] => ∃ bs : List Bool, xs = bs.map D.bl ∧ Q (.bl (bs.all id)) | _ => False
theorem cp_all {K : PySem.W.Frag} : CallP K (rAll K) fAll := fun F H xs ds Q R hs r hf k => by
  unfold fAll at hf
  split at hf
  · obtain ⟨v, rfl, q1⟩ := r.inv1
    obtain ⟨a, vs, rfl, e, q2⟩ := q1.lstInv
    obtain ⟨bs, rfl, q⟩ := hf
    have := q2.bls
    subst this
    exact ⟨a, bs, rfl, SqL.of (hs _ _ e), k _ _ _ _ (.old (.bl _)) q⟩
  · exact hf.elim
def fTup : FC := fun ds Q => match ds with
  | [.lst xs] => Q (.tup xs)
  | [.tup xs] => Q (.tup xs)
  | _ => False
theorem cp_tup {K : PySem.W.Frag} : CallP K (fun xs H Q => ∃ p ys, xs = [.ref p] ∧ ((SqL K H p ys ∧ ∀ l, H l = none → Q (.ref l) (upd H l (.tup ys))) ∨ (SqT K H p ys ∧ Q (.ref p) H))) fTup := fun F H xs ds Q R hs r hf k => by
  unfold fTup at hf
  split at hf
  · obtain ⟨v, rfl, q1⟩ := r.inv1
    obtain ⟨a, vs, rfl, e, q2⟩ := q1.lstInv
    exact ⟨a, vs, rfl, .inl ⟨SqL.of (hs _ _ e), fun l hl => k _ _ _ _ (.new hl (.tup upd_same (q2.mono (same_new (hs.free hl))))) hf⟩⟩
  · obtain ⟨v, rfl, q1⟩ := r.inv1
    obtain ⟨a, vs, rfl, e, q2⟩ := q1.tupInv
    exact ⟨a, vs, rfl, .inr ⟨SqT.of (hs _ _ e), k _ _ _ _ (.old (.tup e q2)) hf⟩⟩
  · exact hf.elim
end
section
variable {X : Cx} {e : Expr} {te : TE} {Te : TEp} {pos : Pos}
def pAppend (i : Nat) (Te : TEp) : TSp := fun P ρ => match ρ[i]? with
  | some (some (.own a _)) => Te ρ fun y ρ1 => ∃ xs1, ρ1[i]? = some (some (.own a xs1)) ∧ xs1.length < sizeLine ∧ P.nx (ρ1.set i (some (.own a (xs1 ++ [y]))))
  | _ => False
theorem pps_append (i : Nat) {x : Str} {p ap cp : Pos} (he : PPE X e te Te) (hN : X.N[i]? = some x := by rfl) (hv : Vis X.env.scope x := by first | exact Or.inl rfl | exact Or.inr (Or.inl rfl) | exact Or.inr (Or.inr rfl)) (hd : (x == ("__debug__" : Str)) = false := by decide)
    (hcd : (x == ("__classdict__" : Str)) = false := by decide)
    (hbase : attributeBase (.Name x p) "append" X.env (eval (.Name x p) X.env) = eval (.Name x p) X.env := by rfl)
    (hfew : ((backTo cp (starEach [e] X.env)).all (fun x => !x.1) && (backToKw cp (keywordEach [] X.env)).all (fun x => x.1.isSome)
      && decide ([e].length + ([] : List Keyword).length + (if ([] : List Keyword).isEmpty then 0 else 1) < 30)) = true := by rfl)
    (hline : (ap.endLine == cp.line) = true := by rfl) (hs : starEach [e] X.env = (false, eval e X.env) :: starEach [] X.env := by rfl)
    (hsw : swapsWith (.Call (.Attribute (.Name x p) "append" ap) [e] [] cp) none pos.line X.env = pure false := by rfl) :
    PPS X (.Expr (.Call (.Attribute (.Name x p) "append" ap) [e] [] cp) pos) (tDrop (tBM X.K "list" rAppend (tVar i) (tCons te tNil))) (pAppend i Te) := ⟨ps_expr (pe_bm PySem.F.plainAttrs_list PySem.F.slot_list_append PySem.F.type_list_append mt_append (pe_var hN hv hd hcd) (pa_cons he.pe pa_nil hs) hbase hfew hline hs rfl) hsw, fun G F H σ ρ P D S hT r => by
  unfold pAppend at hT
  split at hT
  · rename_i a xs e0
    obtain ⟨h1, h2, h3, vs, h4, h5⟩ := S.own i a xs e0
    refine ⟨.ref a, h1, .inl ⟨rfl, _, SqL.of h4⟩, he.snd G F H σ ρ _ _ S hT fun y dy F1 H1 ρ1 u1 S1 r1 q1 => ?_⟩
    obtain ⟨xs1, e1, hz, q⟩ := q1
    obtain ⟨g1, g2, g3, ws, g4, g5⟩ := S1.own i a xs1 e1
    exact ⟨a, ws, y, rfl, rfl, g4, by rw [g5.length]; exact hz, r.nx F1 _ _ _ u1 (S1.mut e1 (g5.append (.one r1))) q⟩
  · exact hT.elim⟩
def pStore (i : Nat) (Ti Te : TEp) : TSp := fun P ρ => Te ρ fun y ρ1 => match ρ1[i]? with
  | some (some (.own a _)) => Ti ρ1 fun k ρ2 => ∃ xs1 n j, ρ2[i]? = some (some (.own a xs1)) ∧ k = .int n ∧ ixN xs1.length n = some j ∧ P.nx (ρ2.set i (some (.own a (xs1.set j y))))
  | _ => False
theorem pps_store (i : Nat) {x : Str} {p sp : Pos} {ix : Expr} {ti : TE} {Ti : TEp} (hi : PPE X ix ti Ti) (he : PPE X e te Te) (hN : X.N[i]? = some x := by rfl) (hv : Vis X.env.scope x := by first | exact Or.inl rfl | exact Or.inr (Or.inl rfl) | exact Or.inr (Or.inr rfl)) (hd : (x == ("__debug__" : Str)) = false := by decide)
    (hcd : (x == ("__classdict__" : Str)) = false := by decide)
    (ha : ∀ v, assign (.Subscript (.Name x p) ix sp) X.env v = (do
      let ov ← holding [v] (eval (.Name x p) X.env)
      let iv ← holding [v, ov] (eval ix X.env)
      standAt sp
      holding [v, ov, iv] (setItem ov iv v)
      release [v, ov, iv] []) := by intro _; rfl)
    (hs : swapsWithSole [.Subscript (.Name x p) ix sp] e pos.line X.env = pure false := by rfl) (hw : swappedStores [.Subscript (.Name x p) ix sp] e X.env = pure none := by rfl)
    (h1 : (assignEach [.Subscript (.Name x p) ix sp] X.env).map (·.2) = [assign (.Subscript (.Name x p) ix sp) X.env] := by rfl) :
    PPS X (.Assign [.Subscript (.Name x p) ix sp] e pos) (tAsg te (gSub (tVar i) ti rSetL)) (pStore i Ti Te) := ⟨ps_asg he.pe (pg_sub (pe_var hN hv hd hcd) hi.pe set_list ha) hs hw h1, fun G F H σ ρ P D S hT r =>
  he.snd G F H σ ρ _ _ S hT fun y dy F1 H1 ρ1 u1 S1 r1 q1 => by
    have q1' : (match ρ1[i]? with
      | some (some (.own a _)) => Ti ρ1 fun k ρ2 => ∃ xs1 n j, ρ2[i]? = some (some (.own a xs1)) ∧ k = .int n ∧ ixN xs1.length n = some j ∧ P.nx (ρ2.set i (some (.own a (xs1.set j dy))))
      | _ => False) := q1
    split at q1'
    · rename_i a xs e0
      obtain ⟨h1, h2, h3, vs, h4, h5⟩ := S1.own i a xs e0
      refine ⟨.ref a, h1, hi.snd G F1 H1 σ ρ1 _ _ S1 q1' fun w dw F2 H2 ρ2 u2 S2 r2 q2 => ?_⟩
      obtain ⟨xs1, n, j, e1, rfl, ej, q⟩ := q2
      obtain ⟨g1, g2, g3, ws, g4, g5⟩ := S2.own i a xs1 e1
      have := r2.intInv
      subst this
      exact ⟨a, ws, n, j, rfl, rfl, g4, by rw [g5.length]; exact ej, r.nx F2 _ _ _ (u1.trans u2) (S2.mut e1 (g5.set (r1.mono u2.ex) j)) q⟩
    · exact q1'.elim⟩
end
end Pl
namespace Pl
open PySem PySem.Spec PyProof.Rows L2
abbrev FA := List D → (Cell → Prop) → Prop
abbrev FB := List D → List D → (Cell → List D → Prop) → Prop
def hide (H : Hp) (a : Addr) : Hp := fun b => if b = a then none else H b
theorem hide_same (H : Hp) (a : Addr) : Same (hide H a) H := fun b o e => by
  unfold hide at e
  by_cases h : b = a
  · rw [if_pos h] at e; cases e
  · rw [if_neg h] at e; exact e
theorem hide_ne {H : Hp} {a b : Addr} (h : b ≠ a) : hide H a b = H b := by unfold hide; rw [if_neg h]
theorem hide_at {H : Hp} {a : Addr} : hide H a a = none := by unfold hide; rw [if_pos rfl]
def spA (K : PySem.W.Frag) (n : Nat) (f : FA) : Sp := fun vs H Q _ => ∃ (F : Hp) (ds : List D) (C : Cell → Prop), vs.length = n ∧ Same F H ∧ Reps K F vs ds ∧ f ds C ∧
  ∀ v c F' H', Up H F F' → SimR K H F' H' [some v] [some c] → C c → Q v H'
def spB (K : PySem.W.Frag) (n : Nat) (f : FB) : Sp := fun vs H Q _ => ∃ (F : Hp) (a : Addr) (us : List V) (xs : List D) (ws : List V) (ds : List D) (C : Cell → List D → Prop), vs = .ref a :: ws ∧ vs.length = n ∧ Same F H ∧ F a = none ∧ H a = some (.lst us) ∧ Reps K F us xs ∧ Reps K F ws ds ∧ f xs ds C ∧
  ∀ v c xs' F' H', Up (hide H a) F F' → SimR K (hide H a) F' H' [some (.ref a), some v] [some (.own a xs'), some c] → C c xs' → Q v H'
theorem get_one {α : Type} {x y : α} {i : Nat} (h : [x][i]? = some y) : i = 0 ∧ x = y := by
  cases i with
  | zero => exact ⟨rfl, Option.some.inj h⟩
  | succ i => simp at h
section
variable [TJ]
theorem Sim.only {K : PySem.W.Frag} {G F H : Hp} {σ : L2.St} {ρ : Ro} {v : V} {c : Cell} (S : Sim K G F H (σ ++ [some v]) (ρ ++ [some c])) : SimR K G F H [some v] [some c] := by
  refine ⟨S.hF, S.hG.same, rfl, fun i d h => ?_, fun i a xs h => ?_, fun i j a xs ys h1 h2 => ?_, fun i s h => ?_, fun i j s t p h1 h2 _ _ => (get_one h1).1.trans (get_one h2).1.symm, fun j a xs h ⟨i, s, e, _⟩ => ?_⟩
  · obtain ⟨rfl, e⟩ := get_one h
    cases e
    exact ⟨v, rfl, S.lastVal⟩
  · obtain ⟨rfl, e⟩ := get_one h
    cases e
    obtain ⟨rfl, h2, h3, h4, h5⟩ := S.lastOwn
    exact ⟨rfl, h2, h3, h5⟩
  · rw [(get_one h1).1, (get_one h2).1]
  · obtain ⟨rfl, e⟩ := get_one h
    cases e
    obtain ⟨rfl, h2, h3, h4⟩ := S.lastBox
    exact ⟨rfl, h2, h3⟩
  · have h1 := (get_one h).2
    have h2 := (get_one e).2
    rw [h1] at h2
    cases h2
theorem Sim.only2 {K : PySem.W.Frag} {G F H : Hp} {σ : L2.St} {ρ : Ro} {v : V} {c : Cell} {a : Addr} {xs : List D} {i : Nat} (S : Sim K G F H (σ ++ [some v]) (ρ ++ [some c])) (e : ρ[i]? = some (some (.own a xs))) : SimR K G F H [some (.ref a), some v] [some (.own a xs), some c] := by
  obtain ⟨h1, h2, h3, vs, h4, h5⟩ := S.drop.own i a xs e
  have hn : ∀ (b : Addr) (ys : List D), c = .own b ys → b ≠ a := fun b ys z w => by
    subst z w
    exact S.lastOwn.2.2.2.1.1 i xs e
  refine ⟨S.hF, S.hG.same, rfl, fun i d h => ?_, fun i b ys h => ?_, fun i j b ys zs q1 q2 => ?_, fun i s h => ?_, fun i j s t p q1 q2 _ _ => ?_, fun j b ys q ⟨k, s, e2, m⟩ => ?_⟩
  · match i, h with
    | 1, h => have e' : c = .val d := Option.some.inj (Option.some.inj h); subst e'; exact ⟨v, rfl, S.lastVal⟩
  · match i, h with
    | 0, h => cases h; exact ⟨rfl, h2, h3, vs, h4, h5⟩
    | 1, h =>
      have e' : c = .own b ys := Option.some.inj (Option.some.inj h)
      subst e'
      obtain ⟨rfl, g2, g3, g4, g5⟩ := S.lastOwn
      exact ⟨rfl, g2, g3, g5⟩
  · match i, j, q1, q2 with
    | 0, 0, _, _ => rfl
    | 1, 1, _, _ => rfl
    | 0, 1, q1, q2 => cases q1; exact absurd rfl (hn _ zs (Option.some.inj (Option.some.inj q2)))
    | 1, 0, q1, q2 => cases q2; exact absurd rfl (hn _ ys (Option.some.inj (Option.some.inj q1)))
  · match i, h with
    | 1, h =>
      have e' : c = .box s := Option.some.inj (Option.some.inj h)
      subst e'
      obtain ⟨rfl, g2, g3, g4⟩ := S.lastBox
      exact ⟨rfl, g2, g3⟩
  · match i, j, q1, q2 with
    | 1, 1, _, _ => rfl
  · match k, e2 with
    | 1, e2 =>
      have e' : c = .box s := Option.some.inj (Option.some.inj e2)
      subst e'
      obtain ⟨rfl, g2, g3, g4⟩ := S.lastBox
      match j, q with
      | 0, q => cases q; exact (g4 a m).1 _ xs e
      | 1, q => cases q
theorem Sim.afterA {K : PySem.W.Frag} {G F H F' H' : Hp} {σ : L2.St} {ρ : Ro} {v : V} {c : Cell} (S : Sim K G F H σ ρ) (u : Up H F F') (S' : SimR K H F' H' [some v] [some c]) : Sim K G F' H' (σ ++ [some v]) (ρ ++ [some c]) := by
  have base : Sim K G F' H' σ ρ := by
    refine ⟨S'.hF, S.hG.up S'.hG u.out, S.len, fun i d h => ?_, fun i a xs h => ?_, S.ne, S.bx.heap u.ex fun p m => let ⟨f, g, o, e⟩ := S.bx.free m; ⟨u.isNone f e, g, (S'.hG _ _ e).trans e.symm⟩⟩
    · obtain ⟨w, h1, h2⟩ := S.val i d h
      exact ⟨w, h1, h2.mono u.ex⟩
    · obtain ⟨h1, h2, h3, vs, h4, h5⟩ := S.own i a xs h
      exact ⟨h1, u.isNone h2 h4, h3, vs, S'.hG _ _ h4, h5.mono u.ex⟩
  cases c with
  | val d =>
    obtain ⟨w, h1, h2⟩ := S'.val 0 d rfl
    cases h1
    exact base.pushVal h2
  | own a xs =>
    obtain ⟨h1, h2, h3, vs, h4, h5⟩ := S'.own 0 a xs rfl
    cases h1
    exact base.pushOwn h4 h2 (S.hG.free h3) (S.notOwn h3) h5
  | box s =>
    obtain ⟨h1, h2, h3⟩ := S'.bx.box 0 s rfl
    cases h1
    exact base.pushBox (fun p m => ⟨(h2 p m).1, S.hG.free (h2 p m).2⟩) h3 fun p m => S.notOwn (h2 p m).2
theorem Sim.afterB {K : PySem.W.Frag} {G F H F' H' : Hp} {σ : L2.St} {ρ : Ro} {v : V} {c : Cell} {i : Nat} {a : Addr} {xs xs' : List D} (S : Sim K G F H σ ρ) (e : ρ[i]? = some (some (.own a xs))) (u : Up (hide H a) F F') (S' : SimR K (hide H a) F' H' [some (.ref a), some v] [some (.own a xs'), some c]) : Sim K G F' H' (σ ++ [some v]) (ρ.set i (some (.own a xs')) ++ [some c]) := by
  obtain ⟨h1, h2, h3, vs, h4, h5⟩ := S.own i a xs e
  have hi := lt_of_get e
  obtain ⟨_, g2, g3, ws, g4, g5⟩ := S'.own 0 a xs' rfl
  have other : ∀ (j : Nat) (b : Addr) (ys : List D), ρ[j]? = some (some (.own b ys)) → j ≠ i → b ≠ a := fun j b ys q hj z => by
    subst z; exact hj (S.ne _ _ _ _ _ q e)
  have far : ∀ (j : Nat) (x : Cell), (ρ.set i (some (.own a xs')))[j]? = some (some x) → (j = i ∧ x = .own a xs') ∨ (j ≠ i ∧ ρ[j]? = some (some x)) := fun j x q => by
    by_cases hj : i = j
    · subst hj; rw [List.getElem?_set_self hi] at q; cases q; exact .inl ⟨rfl, rfl⟩
    · rw [List.getElem?_set_ne hj] at q; exact .inr ⟨fun z => hj z.symm, q⟩
  have base : Sim K G F' H' σ (ρ.set i (some (.own a xs'))) := by
    refine ⟨S'.hF, ⟨fun b o q => ?_, TJ.step S.hG.tj (fun b o q ne => ?_) fun b o q => ?_⟩, by simpa using S.len, fun j d h => ?_, fun j b ys h => ?_, fun j k b ys zs q1 q2 => ?_, S.bx.to u.ex (fun p m => ?_) (fun j s q => ⟨(set_box (by simp) q).1, rfl⟩) fun j b ys q => (set_own q).elim (fun z => by cases z; exact .inl ⟨i, xs, e⟩) fun q => .inl ⟨j, ys, q⟩⟩
    · have n : b ≠ a := fun z => by subst z; rw [h3] at q; cases q
      exact S'.hG b o (by rw [hide_ne n]; exact S.hG b o q)
    · have n : b ≠ a := fun z => by subst z; rw [h4] at q; exact ne ((Option.some.inj q) ▸ trivial)
      exact S'.hG b o (by rw [hide_ne n]; exact q)
    · rcases u.out b o q with z | z
      · exact .inl z
      · by_cases n : b = a
        · subst n; exact .inr (.inr ⟨_, h4, trivial⟩)
        · rw [hide_ne n] at z; exact .inr (.inl z)
    · rcases far j _ h with ⟨_, z⟩ | ⟨_, h⟩
      · cases z
      · obtain ⟨w, k1, k2⟩ := S.val j d h
        exact ⟨w, k1, k2.mono u.ex⟩
    · rcases far j _ h with ⟨rfl, z⟩ | ⟨hj, h⟩
      · cases z; exact ⟨h1, g2, h3, ws, g4, g5⟩
      · obtain ⟨k1, k2, k3, us, k4, k5⟩ := S.own j b ys h
        have n := other j b ys h hj
        have k4' : hide H a b = some (.lst us) := by rw [hide_ne n]; exact k4
        exact ⟨k1, u.isNone k2 k4', k3, us, S'.hG _ _ k4', k5.mono u.ex⟩
    · rcases far j _ q1 with ⟨f1, z1⟩ | ⟨hj, p1⟩
      · rcases far k _ q2 with ⟨f2, _⟩ | ⟨hk, p2⟩
        · rw [f1, f2]
        · cases z1; exact absurd rfl (other k _ zs p2 hk)
      · rcases far k _ q2 with ⟨f2, z2⟩ | ⟨hk, p2⟩
        · cases z2; exact absurd rfl (other j _ ys p1 hj)
        · exact S.ne _ _ _ _ _ p1 p2
    · obtain ⟨f, g, o, e'⟩ := S.bx.free m
      have e2 : hide H a p = some o := by rw [hide_ne (S.bx.apart m e)]; exact e'
      exact ⟨u.isNone f e2, g, (S'.hG _ _ e2).trans e'.symm⟩
  cases c with
  | val d =>
    obtain ⟨w, k1, k2⟩ := S'.val 1 d rfl
    cases k1
    exact base.pushVal k2
  | own b ys =>
    obtain ⟨k1, k2, k3, us, k4, k5⟩ := S'.own 1 b ys rfl
    cases k1
    have n : b ≠ a := fun z => by subst z; exact absurd (S'.ne 0 1 b xs' ys rfl rfl) (by decide)
    have hb : H b = none := (hide_ne (H := H) n).symm.trans k3
    refine base.pushOwn k4 k2 (S.hG.free hb) ⟨fun j zs q => ?_, fun m => (S.notOwn hb).2 (set_inbox (by simp) m)⟩ k5
    rcases far j _ q with ⟨_, z⟩ | ⟨_, q⟩
    · cases z; exact n rfl
    · obtain ⟨_, _, _, vs', h4', _⟩ := S.own j b zs q
      rw [hb] at h4'; cases h4'
  | box s =>
    obtain ⟨k1, k2, k3⟩ := S'.bx.box 1 s rfl
    cases k1
    have hb : ∀ p ∈ s.foot, H p = none := fun p m => by
      have n : p ≠ a := fun z => by subst z; exact S'.bx.bo 0 p xs' rfl ⟨1, s, rfl, m⟩
      exact (hide_ne (H := H) n).symm.trans (k2 p m).2
    refine base.pushBox (fun p m => ⟨(k2 p m).1, S.hG.free (hb p m)⟩) k3 fun p m => ⟨fun j zs q => ?_, fun z => (S.notOwn (hb p m)).2 (set_inbox (by simp) z)⟩
    rcases far j _ q with ⟨_, z⟩ | ⟨_, q⟩
    · cases z; rw [hb _ m] at h4; cases h4
    · exact (S.notOwn (hb p m)).1 j zs q
end
section
variable [TJ] {X : Cx} {k : Nat} {f : Addr} {fd : FuncData} {ps : List Str} {x : Str} {p pos : Pos} {e : Expr} {es : List Expr} {t : TA} {T : TAp} {n : Nat}
def pCallA (n : Nat) (g : FA) (T : TAp) : TCp := fun ρ Q => T ρ fun ds ρ1 => ds.length = n ∧ g ds fun c => Q c ρ1
theorem ppc_callA {g : FA} (Fn : FnOk X.prog X.w X.K X.mg X.base CX0 k f fd ps (spA X.K n g)) (hr : Room k X.A) (hg : Gl X x) (hm : X.mg x = some (.ref f)) (hk : PySem.W.keepIn X.K (.ref f) = true) (hb : Binds X.K fd ps []) (ha : PPA X (e :: es) t T)
    (hdb : (x == ("__debug__" : Str)) = false := by decide) (he : starEach (e :: es) X.env = (false, eval e X.env) :: starEach es X.env := by rfl) (hpl : (backTo pos (starEach es X.env)).any (·.1) = false := by rfl) :
    PPC X (.Call (.Name x p) (e :: es) [] pos) (tCall (spA X.K n g) [] (fun _ _ _ => False) t) (pCallA n g T) := ⟨pe_call Fn hr hg hm hk hb .nil pass0 ha.pa hdb he hpl, fun G F H σ ρ Q R S hT k =>
  ha.snd G F H σ ρ _ _ S hT fun vs ds F1 H1 ρ1 u1 S1 r1 h1 => by
    show spA X.K n g (vs ++ []) H1 R _
    rw [List.append_nil]
    exact ⟨F1, ds, _, by rw [r1.length]; exact h1.1, S1.hF, r1, h1.2, fun v c F' H' u S' q => k v c F' H' ρ1 (u1.trans (u.less S1.hG)) (S1.afterA u S') q⟩⟩
def pCallB (i n : Nat) (g : FB) (T : TAp) : TCp := fun ρ Q => match ρ[i]? with
  | some (some (.own a _)) => T ρ fun ds ρ1 => ∃ xs1, ρ1[i]? = some (some (.own a xs1)) ∧ ds.length + 1 = n ∧ g xs1 ds fun c xs2 => Q c (ρ1.set i (some (.own a xs2)))
  | _ => False
theorem ppc_callB (i : Nat) {y : Str} {py : Pos} {g : FB} (Fn : FnOk X.prog X.w X.K X.mg X.base CX0 k f fd ps (spB X.K n g)) (hr : Room k X.A) (hg : Gl X x) (hm : X.mg x = some (.ref f)) (hk : PySem.W.keepIn X.K (.ref f) = true) (hb : Binds X.K fd ps []) (ha : PPA X es t T)
    (hN : X.N[i]? = some y := by rfl) (hv : Vis X.env.scope y := by first | exact Or.inl rfl | exact Or.inr (Or.inl rfl) | exact Or.inr (Or.inr rfl)) (hd : (y == ("__debug__" : Str)) = false := by decide) (hcd : (y == ("__classdict__" : Str)) = false := by decide)
    (hdb : (x == ("__debug__" : Str)) = false := by decide) (he : starEach (.Name y py :: es) X.env = (false, eval (.Name y py) X.env) :: starEach es X.env := by rfl) (hpl : (backTo pos (starEach es X.env)).any (·.1) = false := by rfl) :
    PPC X (.Call (.Name x p) (.Name y py :: es) [] pos) (tCall (spB X.K n g) [] (fun _ _ _ => False) (tCons (tVar i) t)) (pCallB i n g T) := ⟨pe_call Fn hr hg hm hk hb .nil pass0 (pa_cons (pe_var hN hv hd hcd) ha.pa he) hdb he hpl, fun G F H σ ρ Q R S hT k => by
  unfold pCallB at hT
  split at hT
  · rename_i a xs e0
    refine ⟨.ref a, (S.own i a xs e0).1, ha.snd G F H σ ρ _ _ S hT fun vs ds F1 H1 ρ1 u1 S1 r1 h1 => ?_⟩
    obtain ⟨xs1, e1, hn, q1⟩ := h1
    obtain ⟨h1, h2, h3, us, h4, h5⟩ := S1.own i a xs1 e1
    show spB X.K n g ((.ref a :: vs) ++ []) H1 R _
    rw [List.append_nil]
    refine ⟨F1, a, us, xs1, vs, ds, _, rfl, by rw [List.length_cons, r1.length]; exact hn, S1.hF, h2, h4, h5, r1, q1, fun v c xs' F' H' u S' q => ?_⟩
    have hGh : Same G (hide H1 a) := fun b o qq => by
      have nb : b ≠ a := fun z => by rw [z, h3] at qq; cases qq
      rw [hide_ne nb]; exact S1.hG b o qq
    exact k v c F' H' _ (u1.trans (u.less hGh)) (S1.afterB e1 u S') q
  · exact hT.elim⟩
end
section
variable {P : Program} {w : World} {K : PySem.W.Frag} {mg : Str → Option Value} {base : Heap} {x qual : Str} {st : Stmt} {f : Addr} {fd : FuncData} {N ps : List Str} {k : Nat}
def startA (N : List Str) (ds : List D) : Ro := ds.map (fun d => some (.val d)) ++ List.replicate (N.length - ds.length) none
def startB (N : List Str) (a : Addr) (xs : List D) (ds : List D) : Ro := some (.own a xs) :: (ds.map (fun d => some (.val d)) ++ List.replicate (N.length - (ds.length + 1)) none)
theorem sim_vals [TJ] {K : PySem.W.Frag} {G F H : Hp} (hF : Same F H) (hG : SameJ G F H) {vs : List V} {ds : List D} (r : Reps K F vs ds) (m : Nat) : Sim K G F H (vs.map some ++ List.replicate m none) (ds.map (fun d => some (.val d)) ++ List.replicate m none) := by
  have key : ∀ (i : Nat) (c : Cell), (ds.map (fun d => some (Cell.val d)) ++ List.replicate m none)[i]? = some (some c) → ∃ d, c = .val d ∧ ds[i]? = some d := fun i c h => by
    rcases Nat.lt_or_ge i ds.length with q | q
    · rw [List.getElem?_append_left (by simpa using q), List.getElem?_map, List.getElem?_eq_getElem q] at h
      exact ⟨ds[i], (Option.some.inj (Option.some.inj h)).symm, List.getElem?_eq_getElem q⟩
    · rw [List.getElem?_append_right (by simpa using q), List.getElem?_replicate] at h
      split at h <;> cases h
  refine ⟨hF, hG, by simp [r.length], fun i d h => ?_, fun i a xs h => ?_, fun i j a xs ys h1 h2 => ?_, .nil fun i s h => by obtain ⟨d, e, _⟩ := key i _ h; cases e⟩
  · obtain ⟨d', e, hd⟩ := key i _ h
    cases e
    obtain ⟨v, hv, rv⟩ := r.get hd
    refine ⟨v, ?_, rv⟩
    have q : i < vs.length := lt_of_get hv
    rw [List.getElem?_append_left (by simpa using q), List.getElem?_map, hv]
    rfl
  · obtain ⟨d', e, _⟩ := key i _ h
    cases e
  · obtain ⟨d', e, _⟩ := key i _ h1
    cases e
theorem Sim.cons_own [TJ] {K : PySem.W.Frag} {G F H : Hp} {σ : L2.St} {ρ : Ro} (S : Sim K G F H σ ρ) {a : Addr} {vs : List V} {xs : List D} (hH : H a = some (.lst vs)) (hF : F a = none) (hG : G a = none) (hn : NotOwn ρ a) (r : Reps K F vs xs) :
    Sim K G F H (some (.ref a) :: σ) (some (.own a xs) :: ρ) := by
  refine ⟨S.hF, S.hG, by simp [S.len], fun i d h => ?_, fun i b ys h => ?_, fun i j b ys zs h1 h2 => ?_, fun i s h => ?_, fun i j s t p h1 h2 m1 m2 => ?_, fun j b ys h ⟨k, s, e, m⟩ => ?_⟩
  · cases i with
    | zero => cases h
    | succ i => exact S.val i d h
  · cases i with
    | zero => cases h; exact ⟨rfl, hF, hG, vs, hH, r⟩
    | succ i => exact S.own i b ys h
  · cases i with
    | zero =>
      cases j with
      | zero => rfl
      | succ j => cases h1; exact absurd h2 (hn.1 j zs)
    | succ i =>
      cases j with
      | zero => cases h2; exact absurd h1 (hn.1 i ys)
      | succ j => rw [S.ne i j b ys zs h1 h2]
  · cases i with
    | zero => cases h
    | succ i => exact S.bx.box i s h
  · cases i with
    | zero => cases h1
    | succ i =>
      cases j with
      | zero => cases h2
      | succ j => rw [S.bx.bb i j s t p h1 h2 m1 m2]
  · cases k with
    | zero => cases e
    | succ k =>
      cases j with
      | zero => cases h; exact hn.2 ⟨k, s, e, m⟩
      | succ j => exact S.bx.bo j b ys h ⟨k, s, e, m⟩
theorem vals_box {ds : List D} {m i : Nat} {s : Sh} : (ds.map (fun d => some (Cell.val d)) ++ List.replicate m none)[i]? ≠ some (some (.box s)) := fun h => by
  rcases Nat.lt_or_ge i ds.length with q | q
  · rw [List.getElem?_append_left (by simpa using q), List.getElem?_map, List.getElem?_eq_getElem q] at h
    cases h
  · rw [List.getElem?_append_right (by simpa using q), List.getElem?_replicate] at h
    split at h <;> cases h
theorem notOwn_vals {ds : List D} {m : Nat} {a : Addr} : NotOwn (ds.map (fun d => some (Cell.val d)) ++ List.replicate m none) a := ⟨fun i xs h => (by
  rcases Nat.lt_or_ge i ds.length with q | q
  · rw [List.getElem?_append_left (by simpa using q), List.getElem?_map, List.getElem?_eq_getElem q] at h
    cases h
  · rw [List.getElem?_append_right (by simpa using q), List.getElem?_replicate] at h
    split at h <;> cases h), fun ⟨i, s, e, _⟩ => vals_box e⟩
theorem okA {g : FA} {T : TSp} (Fn : Fun K x qual st f fd) (S : FnScope N ps (defScope st))
    (hb : ∀ (cdv : Value) (A : Around) (outer : List Env) (s : Shared) (H : Hp) (E : XK), Room k (A.deeper (envOfC qual (defScope st) s.heap.objs.size f cdv)) → ∃ t, PPSs (cxOf CX0 P w K mg base N qual (defScope st) f cdv A outer s H E).nox (defBody st) t T)
    (hT : ∀ ds C, ds.length = ps.length → g ds C → T { nx := fun _ => C (.val .non), rt := fun c _ => C c } (startA N ds)) : FnOk P w K mg base CX0 (k + 1) f fd ps (spA K ps.length g) := by
  refine Fn.ok S (fun vs H Q E h => ?_) (fun cdv A outer s H vs Q E hr h => ?_)
  · obtain ⟨F, ds, C, hl, _⟩ := h
    exact hl
  · obtain ⟨F, ds, C, hl, hF, r, hg, hQ⟩ := h
    obtain ⟨t, ht⟩ := hb cdv A outer s H E hr
    refine ⟨t, ht.ps, ?_⟩
    have S0 : Sim K H F H (L2.start N vs) (startA N ds) := by
      unfold L2.start startA
      rw [r.length]
      exact sim_vals hF (.rfl' F H) r _
    refine ht.snd H F H _ _ _ _ S0 (hT ds C (by rw [← r.length]; exact hl) hg) ⟨fun F' H' σ' ρ' u S' q => ?_, fun F' H' σ' ρ' v c u S' q => hQ v c F' H' u S'.only q, fun _ _ _ _ _ _ q => q, fun _ _ _ _ _ _ q => q⟩
    exact hQ .non (.val .non) F' H' u ((S'.pushVal .non).only) q
theorem okB {g : FB} {T : TSp} (Fn : Fun K x qual st f fd) (S : FnScope N ps (defScope st))
    (hb : ∀ (cdv : Value) (A : Around) (outer : List Env) (s : Shared) (H : Hp) (E : XK), Room k (A.deeper (envOfC qual (defScope st) s.heap.objs.size f cdv)) → ∃ t, PPSs (cxOf CX0 P w K mg base N qual (defScope st) f cdv A outer s H E).nox (defBody st) t T)
    (hT : ∀ a xs ds C, ds.length + 1 = ps.length → g xs ds C → T { nx := fun ρ => ∃ ys, ρ[0]? = some (some (.own a ys)) ∧ C (.val .non) ys, rt := fun c ρ => ∃ ys, ρ[0]? = some (some (.own a ys)) ∧ C c ys } (startB N a xs ds)) : FnOk P w K mg base CX0 (k + 1) f fd ps (spB K ps.length g) := by
  refine Fn.ok S (fun vs H Q E h => ?_) (fun cdv A outer s H vs Q E hr h => ?_)
  · obtain ⟨F, a, us, xs, ws, ds, C, _, hl, _⟩ := h
    exact hl
  · obtain ⟨F, a, us, xs, ws, ds, C, rfl, hl, hF, hFa, hHa, r1, r2, hg, hQ⟩ := h
    obtain ⟨t, ht⟩ := hb cdv A outer s H E hr
    refine ⟨t, ht.ps, ?_⟩
    have S0 : Sim K (hide H a) F H (L2.start N (.ref a :: ws)) (startB N a xs ds) := by
      unfold L2.start startB
      rw [List.length_cons, r2.length]
      exact (sim_vals hF (.of (hide_same H a)) r2 _).cons_own hHa hFa hide_at notOwn_vals r1
    refine ht.snd (hide H a) F H _ _ _ _ S0 (hT a xs ds C (by rw [← r2.length]; exact hl) hg) ⟨fun F' H' σ' ρ' u S' q => ?_, fun F' H' σ' ρ' v c u S' q => ?_, fun _ _ _ _ _ _ q => q, fun _ _ _ _ _ _ q => q⟩
    · obtain ⟨ys, e, q⟩ := q
      exact hQ .non (.val .non) ys F' H' u ((S'.pushVal .non).only2 e) q
    · obtain ⟨ys, e, q⟩ := q
      exact hQ v c ys F' H' u (S'.only2 e) q
end
end Pl
namespace Pl
open PySem PySem.Spec PyProof.Rows L2
variable [TJ]
def liftE (K : PySem.W.Frag) (T : TEp) : TE := fun σ H R => ∃ (G F : Hp) (ρ : Ro) (Q : D → Ro → Prop), Sim K G F H σ ρ ∧ T ρ Q ∧ ∀ v d F' H' ρ', Up G F F' → Sim K G F' H' σ ρ' → Rep K F' v d → Q d ρ' → R v H'
def liftT (K : PySem.W.Frag) (T : TTp) : TT := fun σ H R => ∃ (G F : Hp) (ρ : Ro) (Q : Bool → Ro → Prop), Sim K G F H σ ρ ∧ T ρ Q ∧ ∀ b F' H' ρ', Up G F F' → Sim K G F' H' σ ρ' → Q b ρ' → R b H'
def liftG (K : PySem.W.Frag) (T : TGp) (is : List Nat) : TG := fun v σ H R => ∃ (G F : Hp) (ρ : Ro) (Q : Ro → Prop) (d : D), Sim K G F H σ ρ ∧ Rep K F v d ∧ T d ρ Q ∧ ∀ F' H' σ' ρ', Up G F F' → Sim K G F' H' σ' ρ' → (∀ j, j ∉ is → σ'[j]? = σ[j]?) → σ'.length = σ.length → Q ρ' → R σ' H'
section
variable {X : Cx}
theorem PPE.lift {e : Expr} {t : TE} {T : TEp} (h : PPE X e t T) : PPE X e (liftE X.K T) T :=
  ⟨⟨fun pins s σ H Q I ⟨G, F, ρ, Q', S, hT, k⟩ => h.pe.run pins s σ H Q I (h.snd G F H σ ρ Q' Q S hT k)⟩, fun G F H σ ρ Q R S hT k => ⟨G, F, ρ, Q, S, hT, k⟩⟩
theorem PPTs.lift {es : List Expr} {t : TT} {T : TTp} (h : PPTs X es t T) : PPTs X es (liftT X.K T) T :=
  ⟨⟨fun pins s σ H Q I ⟨G, F, ρ, Q', S, hT, k⟩ => h.pt.run pins s σ H Q I (h.snd G F H σ ρ Q' Q S hT k)⟩, fun G F H σ ρ Q R S hT k => ⟨G, F, ρ, Q, S, hT, k⟩⟩
theorem PTg.lift {tg : Expr} {g : TG} {T : TGp} {is : List Nat} (h : PTg X tg g T is) : PTg X tg (liftG X.K T is) T is :=
  ⟨⟨fun pins s σ H v u Q I r ⟨G, F, ρ, Q', d, S, rd, hT, k⟩ => h.pg.run pins s σ H v u Q I r (h.snd G F H σ ρ Q' Q v d S rd hT k)⟩, fun G F H σ ρ Q R v d S r hT k => ⟨G, F, ρ, Q, d, S, r, hT, k⟩⟩
end
section
variable {X : Cx} {elt tg iter : Expr} {ifs : List Expr} {scope : Scope} {own : List (Str × Nat)} {pos : Pos} {wi : TI} {Ti : TAp} {Gp : TGp} {is : List Nat} {Tt : TTp} {Te : TEp} {vs : List Nat}
theorem ppc_lcL (hc : X.calm = true) (hN : X.N.Nodup) (hi : PPI X tg iter wi Ti) (ok : BlkOk X.N X.env.scope scope own)
    (hg : ∀ (s : Shared) (H : Hp) (C : Addr) (cl : List (Str × Addr)) (fp : List Addr), PTg (X.blk s H scope (compEnvC scope cl C X.env) fp) tg (liftG X.K Gp is) Gp is) (ht : ∀ (s : Shared) (H : Hp) (C : Addr) (cl : List (Str × Addr)) (fp : List Addr), PPTs (X.blk s H scope (compEnvC scope cl C X.env) fp) ifs (liftT X.K Tt) Tt)
    (he : ∀ (s : Shared) (H : Hp) (C : Addr) (cl : List (Str × Addr)) (fp : List Addr), PPE (X.blk s H scope (compEnvC scope cl C X.env) fp) elt (liftE X.K Te) Te) (hs : ∀ x, foldedSetIterable iter X.env x = pure x := by intro _; rfl) (hsub : ∀ i ∈ is, i ∈ own.map (·.2) := by decide) :
    PPC X (.ListComp elt [⟨tg, iter, ifs, 0⟩] scope pos) (tLc wi (liftG X.K Gp is) (liftT X.K Tt) (liftE X.K Te) (own.map (·.2))) (pLcO Ti Gp Tt Te (own.map (·.2))) := ppc_lc hc hN hi ok hg ht he hs hsub
theorem ppe_lcL (hc : X.calm = true) (hN : X.N.Nodup) (hi : PPI X tg iter wi Ti) (ok : BlkOk X.N X.env.scope scope own)
    (hg : ∀ (s : Shared) (H : Hp) (C : Addr) (cl : List (Str × Addr)) (fp : List Addr), PTg (X.blk s H scope (compEnvC scope cl C X.env) fp) tg (liftG X.K Gp is) Gp is) (ht : ∀ (s : Shared) (H : Hp) (C : Addr) (cl : List (Str × Addr)) (fp : List Addr), PPTs (X.blk s H scope (compEnvC scope cl C X.env) fp) ifs (liftT X.K Tt) Tt)
    (he : ∀ (s : Shared) (H : Hp) (C : Addr) (cl : List (Str × Addr)) (fp : List Addr), PPE (X.blk s H scope (compEnvC scope cl C X.env) fp) elt (liftE X.K Te) Te) (hs : ∀ x, foldedSetIterable iter X.env x = pure x := by intro _; rfl) (hsub : ∀ i ∈ is, i ∈ own.map (·.2) := by decide) :
    PPE X (.ListComp elt [⟨tg, iter, ifs, 0⟩] scope pos) (tLc wi (liftG X.K Gp is) (liftT X.K Tt) (liftE X.K Te) (own.map (·.2))) (pLc Ti Gp Tt Te (own.map (·.2))) := ppe_lc hc hN hi ok hg ht he hs hsub
theorem pps_setLcL {i : Nat} {y : Str} {py spos : Pos} (hc : X.calm = true) (hN : X.N.Nodup) (hi : PPI X tg iter wi Ti) (ok : BlkOk X.N X.env.scope scope own)
    (hg : ∀ (s : Shared) (H : Hp) (C : Addr) (cl : List (Str × Addr)) (fp : List Addr), PTg (X.blk s H scope (compEnvC scope cl C X.env) fp) tg (liftG X.K Gp is) Gp is) (ht : ∀ (s : Shared) (H : Hp) (C : Addr) (cl : List (Str × Addr)) (fp : List Addr), PPTs (X.blk s H scope (compEnvC scope cl C X.env) fp) ifs (liftT X.K Tt) Tt)
    (he : ∀ (s : Shared) (H : Hp) (C : Addr) (cl : List (Str × Addr)) (fp : List Addr), PPE (X.blk s H scope (compEnvC scope cl C X.env) fp) elt (liftE X.K Te) Te)
    (hy : X.N[i]? = some y := by rfl) (hyl : X.env.scope.names.lookup y = some .local := by rfl)
    (hsw : swapsWith (.ListComp elt [⟨tg, iter, ifs, 0⟩] scope pos) (some (.Name y py)) spos.line X.env = pure true := by exact sw_true rfl rfl rfl (by decide +kernel)) (hs : ∀ x, foldedSetIterable iter X.env x = pure x := by intro _; rfl) (hsub : ∀ i ∈ is, i ∈ own.map (·.2) := by decide) :
    PPS X (.Assign [.Name y py] (.ListComp elt [⟨tg, iter, ifs, 0⟩] scope pos) spos) (tAsg (tLc wi (liftG X.K Gp is) (liftT X.K Tt) (liftE X.K Te) (own.map (·.2))) (gName i)) (pSet i (pLcO Ti Gp Tt Te (own.map (·.2)))) := pps_setLc hc hN hi ok hg ht he hy hyl hsw hs hsub
end
theorem hu64 {k : Nat} {A : Around} (hr : Room k A) : A.units + 64 < cLine := by have := hr.un; omega
end Pl
namespace Pl
open PySem PySem.Spec PyProof.Rows L2
theorem ifB {b : Bool} {A B : Prop} (h1 : b = true → A) (h2 : b = false → B) : if b = true then A else B := by
  cases b with
  | true => exact ite_ti (h1 rfl)
  | false => exact ite_fi (h2 rfl)
theorem ifT {b : Bool} {A B : Prop} (h : b = true) (h1 : A) : if b = true then A else B := by subst h; exact ite_ti h1
theorem ifF {b : Bool} {A B : Prop} (h : b = false) (h1 : B) : if b = true then A else B := by subst h; exact ite_fi h1
theorem dT {p : Prop} [Decidable p] (h : decide p = true) : p := of_decide_eq_true h
theorem dF {p : Prop} [Decidable p] (h : decide p = false) : ¬ p := of_decide_eq_false h
theorem sl1000 {n : Nat} (h : n ≤ 1000) : n ≤ sizeLine := Nat.le_of_lt (small1000 h)
theorem for_inv {g : TGp} {tb : TSp} {P : PEnds} (I : List D → Ro → Prop) (hs : ∀ (d : D) (r : List D) (ρ : Ro) (K : Ro → Prop), (∀ ρ', I r ρ' → K ρ') → I (d :: r) ρ → g d ρ fun ρ1 => tb { P with nx := K, ct := K, bk := P.nx } ρ1)
    (he : ∀ ρ, I [] ρ → P.nx ρ) : ∀ (ds : List D) (ρ : Ro), I ds ρ → forW g tb P ds ρ
  | [], ρ, h => he ρ h
  | d :: ds, ρ, h => hs d ds ρ _ (fun ρ' h' => for_inv I hs he ds ρ' h') h
def ElemOk (vs : List Nat) (g : TGp) (te : TEp) (ρ : Ro) (d y : D) : Prop := ∀ K : D → Ro → Prop, (∀ ρ4, restore ρ ρ4 vs = ρ → K y ρ4) → g d (wipeP ρ vs) fun ρ2 => te ρ2 K
theorem lcW_map {vs : List Nat} {g : TGp} {te : TEp} {Q : List D → Ro → Prop} {f : D → D} {ρ : Ro} : ∀ (ds acc : List D), (∀ d ∈ ds, ElemOk vs g te ρ d (f d)) → acc.length + ds.length ≤ 1000 → Q (acc ++ ds.map f) ρ → lcW vs g pYes te Q ds acc ρ
  | [], acc, _, _, hQ => by
    have hQ : Q (acc ++ []) ρ := hQ
    rw [List.append_nil] at hQ
    exact hQ
  | d :: ds, acc, h, hl, hQ => by
    have hl' : acc.length + (ds.length + 1) ≤ 1000 := hl
    refine h d (by simp) _ fun ρ4 e => ⟨small1000 (by omega), ?_⟩
    rw [e]
    refine lcW_map ds _ (fun x hx => h x (by simp [hx])) (by rw [List.length_append]; show acc.length + 1 + ds.length ≤ 1000; omega) ?_
    rw [List.append_assoc]
    exact hQ
abbrev dI (ns : List Int) : List D := ns.map D.int
theorem ints_len (ns : List Int) : (dI ns).length = ns.length := by simp
theorem lcW_ints {vs : List Nat} {g : TGp} {te : TEp} {Q : List D → Ro → Prop} {h : Int → D} {ρ : Ro} {ns : List Int} (hs : ∀ x ∈ ns, ElemOk vs g te ρ (.int x) (h x)) (hl : ns.length ≤ 1000) (hQ : Q (ns.map h) ρ) : lcW vs g pYes te Q (dI ns) [] ρ := by
  refine lcW_map (f := fun d => match d with | .int x => h x | _ => .non) (dI ns) [] (fun d hd => ?_) (by simpa using hl) ?_
  · obtain ⟨x, hx, rfl⟩ := List.mem_map.mp hd
    exact hs x hx
  · rw [List.nil_append, List.map_map]
    exact hQ
def Sq (d : D) (ns : List Int) : Prop := d = .tup (dI ns) ∨ d = .lst (dI ns)
theorem cutD_from1 (xs : List D) : cutD xs (some 1) none = xs.drop 1 := by
  unfold cutD
  rw [show HT.sIx xs.length 0 (some 1) = min 1 xs.length from HT.sIx_nat xs.length 0 1, HT.sIx_none]
  cases xs with
  | nil => rfl
  | cons x r =>
    rw [show min 1 (x :: r).length = 1 by rw [List.length_cons]; omega]
    show (List.take ((x :: r).length - 1) r) = r
    rw [List.length_cons, Nat.add_sub_cancel]
    exact List.take_length
theorem atI_zero {α : Type} (x : α) (r : List α) : atI (x :: r) 0 = some x := atI_nat (j := 0) rfl
end Pl
namespace Pl
open PySem PySem.Spec PyProof.Rows L2
theorem fnNoneB {P : Program} {w : World} {K : PySem.W.Frag} {mg : Str → Option Value} {base : Heap} {k n : Nat} {x qual : Str} {st : Stmt} {f : Addr} {fd : FuncData} {ps : List Str} (_ : Fun K x qual st f fd) : FnOk P w K mg base CX0 k f fd ps (spB K n fun _ _ _ => False) :=
  ⟨fun _ _ _ _ h => by obtain ⟨_, _, _, _, _, _, _, _, _, _, _, _, _, _, h, _⟩ := h; exact h.elim, fun _ _ _ _ _ _ _ _ _ _ _ _ _ h => by obtain ⟨_, _, _, _, _, _, _, _, _, _, _, _, _, _, h, _⟩ := h; exact h.elim⟩
theorem fnNoneA {P : Program} {w : World} {K : PySem.W.Frag} {mg : Str → Option Value} {base : Heap} {k n : Nat} {x qual : Str} {st : Stmt} {f : Addr} {fd : FuncData} {ps : List Str} (_ : Fun K x qual st f fd) : FnOk P w K mg base CX0 k f fd ps (spA K n fun _ _ => False) :=
  ⟨fun _ _ _ _ h => by obtain ⟨_, _, _, _, _, _, h, _⟩ := h; exact h.elim, fun _ _ _ _ _ _ _ _ _ _ _ _ _ h => by obtain ⟨_, _, _, _, _, _, h, _⟩ := h; exact h.elim⟩
end Pl
namespace Pl
open PySem PySem.Spec PyProof.Rows L2
variable [TJ]
def tyN : D → String
  | .non => "NoneType"
  | .bl _ => "bool"
  | .int _ => "int"
  | .str _ => "str"
  | .lst _ => "list"
  | .tup _ => "tuple"
  | .scr _ => "list"
  | .adr _ => "list"
  | .exc _ _ => "object"
def D.isInt : D → Bool
  | .int _ => true
  | .bl _ => true
  | _ => false
def D.isBl : D → Bool
  | .bl _ => true
  | _ => false
def D.isStr : D → Bool
  | .str _ => true
  | _ => false
def D.isLst : D → Bool
  | .lst _ => true
  | .scr _ => true
  | .adr _ => true
  | _ => false
def D.isTup : D → Bool
  | .tup _ => true
  | _ => false
structure IsT (n : String) (p : D → Bool) : Prop where
  kit : ∀ d, kitB (tyN d) n = some (p d)
  boot : bootBuiltins (Str.ofString n) = some (.type n)
theorem isT_int : IsT "int" D.isInt := ⟨fun d => by cases d <;> with_unfolding_all rfl, by decide +kernel⟩
theorem isT_bool : IsT "bool" D.isBl := ⟨fun d => by cases d <;> with_unfolding_all rfl, by decide +kernel⟩
theorem isT_str : IsT "str" D.isStr := ⟨fun d => by cases d <;> with_unfolding_all rfl, by decide +kernel⟩
theorem isT_list : IsT "list" D.isLst := ⟨fun d => by cases d <;> with_unfolding_all rfl, by decide +kernel⟩
theorem isT_tuple : IsT "tuple" D.isTup := ⟨fun d => by cases d <;> with_unfolding_all rfl, by decide +kernel⟩
theorem Rep.ty {K : PySem.W.Frag} {F H : Hp} (e : Same F H) {v : V} {d : D} (r : Rep K F v d) (hn : (∀ ns, d ≠ .scr ns) ∧ (∀ a, d ≠ .adr a) ∧ ∀ c y, d ≠ .exc c y) : TyX K H v (.type (tyN d)) := by
  cases r with
  | non => exact .base .non
  | bl b => exact .base (.bl b)
  | int i => exact .base (.int i)
  | str z => exact .base (.str z)
  | lst h _ => exact .base (.lst (e _ _ h))
  | tup h _ => exact .base (.tup (e _ _ h))
  | scr _ => exact absurd rfl (hn.1 _)
  | adr _ => exact absurd rfl (hn.2.1 _)
  | exc _ _ _ _ => exact absurd rfl (hn.2.2 _ _)
def notScr (d : D) (A : Prop) : Prop := match d with
  | .scr _ => False
  | .adr _ => False
  | .exc _ _ => False
  | _ => A
theorem notScr_of {d : D} {A : Prop} (h : notScr d A) : ((∀ ns, d ≠ .scr ns) ∧ (∀ a, d ≠ .adr a) ∧ ∀ c y, d ≠ .exc c y) ∧ A := by
  cases d with
  | scr ns => exact h.elim
  | adr a => exact h.elim
  | exc _ _ => exact h.elim
  | _ => exact ⟨⟨fun _ z => (by cases z), fun _ z => (by cases z), fun _ _ z => (by cases z)⟩, h⟩
section
variable {X : Cx} {e : Expr} {te : TE} {Te : TEp} {pos : Pos}
def pIsi (p : D → Bool) (Te : TEp) : TEp := fun ρ Q => Te ρ fun d ρ1 => notScr d (Q (.bl (p d)) ρ1)
theorem ppe_isi {n : String} {p : D → Bool} {fp np : Pos} (ht : IsT n p) (hg : Gl X "isinstance") (hm : X.mg "isinstance" = none) (hgn : Gl X (Str.ofString n)) (hmn : X.mg (Str.ofString n) = none) (he : PPE X e te Te) (hnn : Str.ofString n ≠ "__name__" := by decide) (hnd : (Str.ofString n == ("__debug__" : Str)) = false := by decide)
    (hs : starEach [e, .Name (Str.ofString n) np] X.env = (false, eval e X.env) :: starEach [.Name (Str.ofString n) np] X.env := by rfl) (hs2 : starEach [.Name (Str.ofString n) np] X.env = (false, eval (.Name (Str.ofString n) np) X.env) :: starEach [] X.env := by rfl) (hpl : (backTo pos (starEach [.Name (Str.ofString n) np] X.env)).any (·.1) = false := by rfl) :
    PPE X (.Call (.Name "isinstance" fp) [e, .Name (Str.ofString n) np] [] pos) (tCB (rIsi X.K) (tCons te (tCons (tC (.ty n)) tNil))) (pIsi p Te) :=
  ⟨pe_callB call_isi hg hm (by decide +kernel) (pa_cons he.pe (pa_cons (pe_bltn hgn hmn ht.boot rfl hnn hnd) pa_nil hs2) hs) (by decide) (by decide) hs hpl, fun G F H σ ρ Q R S hT k =>
    he.snd G F H σ ρ _ _ S hT fun v d F1 H1 ρ1 u1 S1 r1 q1 => by
      obtain ⟨hn, q⟩ := notScr_of q1
      exact ⟨v, .ty n, _, _, p d, rfl, .ty n, r1.ty S1.hF hn, ht.kit d, k _ _ F1 H1 ρ1 u1 S1 (.bl _) q⟩⟩
theorem kitAny_nil {K : PySem.W.Frag} {t : Value} : PySem.W.kitAny K t [] = some false := rfl
def pIsi2 (p q : D → Bool) (Te : TEp) : TEp := fun ρ Q => Te ρ fun d ρ1 => notScr d (Q (.bl (p d || q d)) ρ1)
theorem ppe_isi2 {n m : String} {p q : D → Bool} {fp np mp tp : Pos} {kk : Nat} (ht : IsT n p) (ht2 : IsT m q) (hg : Gl X "isinstance") (hm : X.mg "isinstance" = none) (hgn : Gl X (Str.ofString n)) (hmn : X.mg (Str.ofString n) = none) (hgm : Gl X (Str.ofString m)) (hmm : X.mg (Str.ofString m) = none) (he : PPE X e te Te)
    (hnn : Str.ofString n ≠ "__name__" := by decide) (hnd : (Str.ofString n == ("__debug__" : Str)) = false := by decide) (hmn' : Str.ofString m ≠ "__name__" := by decide) (hmd : (Str.ofString m == ("__debug__" : Str)) = false := by decide)
    (hs : starEach [e, .Tuple [.Name (Str.ofString n) np, .Name (Str.ofString m) mp] kk tp] X.env = (false, eval e X.env) :: starEach [.Tuple [.Name (Str.ofString n) np, .Name (Str.ofString m) mp] kk tp] X.env := by rfl)
    (hs2 : starEach [.Tuple [.Name (Str.ofString n) np, .Name (Str.ofString m) mp] kk tp] X.env = (false, eval (.Tuple [.Name (Str.ofString n) np, .Name (Str.ofString m) mp] kk tp) X.env) :: starEach [] X.env := by rfl)
    (hs3 : starEach [.Name (Str.ofString n) np, .Name (Str.ofString m) mp] X.env = (false, eval (.Name (Str.ofString n) np) X.env) :: starEach [.Name (Str.ofString m) mp] X.env := by rfl)
    (hs4 : starEach [.Name (Str.ofString m) mp] X.env = (false, eval (.Name (Str.ofString m) mp) X.env) :: starEach [] X.env := by rfl)
    (hpl : (backTo pos (starEach [.Tuple [.Name (Str.ofString n) np, .Name (Str.ofString m) mp] kk tp] X.env)).any (·.1) = false := by rfl) :
    PPE X (.Call (.Name "isinstance" fp) [e, .Tuple [.Name (Str.ofString n) np, .Name (Str.ofString m) mp] kk tp] [] pos) (tCB (rIsiT X.K) (tCons te (tCons (tTup (tCons (tC (.ty n)) (tCons (tC (.ty m)) tNil))) tNil))) (pIsi2 p q Te) :=
  ⟨pe_callB call_isiT hg hm (by decide +kernel) (pa_cons he.pe (pa_cons (pe_tup (pa_cons (pe_bltn hgn hmn ht.boot rfl hnn hnd) (pa_cons (pe_bltn hgm hmm ht2.boot rfl hmn' hmd) pa_nil hs4) hs3)) pa_nil hs2) hs) (by decide) (by decide) hs hpl, fun G F H σ ρ Q R S hT k =>
    he.snd G F H σ ρ _ _ S hT fun v d F1 H1 ρ1 u1 S1 r1 q1 => by
      obtain ⟨hn, q'⟩ := notScr_of q1
      refine ⟨by show (2 : Nat) ≤ sizeLine; decide, fun a ha => ?_⟩
      refine ⟨v, a, [.ty n, .ty m], _, [.type n, .type m], p d || q d, rfl, upd_same, .cons (.ty n) (.cons (.ty m) .nil), r1.ty (S1.hF.trans (same_new ha)) hn, ?_, k _ _ F1 _ ρ1 u1 (S1.more ha) (.bl _) q'⟩
      refine kitAny_cons (b := p d) (ht.kit d) (fun h => kitAny_cons (b := q d) (ht2.kit d) (fun h2 => by rw [h, h2]; rfl) (fun h2 => by rw [h2]; simp)) (fun h => by rw [h]; rfl)⟩
end
def okN : Nat → D → Prop
  | _, .non => True
  | _, .bl _ => True
  | _, .int _ => True
  | _, .str z => (D.str z).sh
  | n + 1, .lst xs => xs.length ≤ 1000 ∧ ∀ x ∈ xs, okN n x
  | n + 1, .tup xs => xs.length ≤ 1000 ∧ ∀ x ∈ xs, okN n x
  | _, _ => False
def gS : Nat → FA
  | 0 => fun _ _ => False
  | n + 1 => fun ds C => ∃ d, ds = [d, d] ∧ okN n d ∧ C (.val (.bl true))
end Pl
namespace Pl
open PySem PySem.Spec PyProof.Rows L2
variable [TJ]
section
variable {X : Cx}
theorem any_toPys (x : D) : ∀ ys : List D, ((toPys ys).any fun z => PyData.eqv z (toPy x)) = ys.any fun z => z.eqv x
  | [] => rfl
  | y :: ys => by
    rw [toPys, List.any_cons, List.any_cons, any_toPys x ys]; rfl
theorem hu65 {k : Nat} {A : Around} (hr : Room k A) : A.units + 65 < cLine := by have := hr.un; omega
end
end Pl
namespace Pl
open PySem PySem.Spec PyProof.Rows L2
variable [TJ]
section
variable {X : Cx} {e : Expr} {te : TE} {Te : TEp} {pos : Pos}
def pExtend (i : Nat) (Te : TEp) : TSp := fun P ρ => match ρ[i]? with
  | some (some (.own a _)) => Te ρ fun y ρ1 => match y with
    | .lst zs => ∃ xs1, ρ1[i]? = some (some (.own a xs1)) ∧ xs1.length + zs.length ≤ sizeLine ∧ P.nx (ρ1.set i (some (.own a (xs1 ++ zs))))
    | _ => False
  | _ => False
theorem pps_extend (i : Nat) {x : Str} {p ap cp : Pos} (he : PPE X e te Te) (hN : X.N[i]? = some x := by rfl) (hv : Vis X.env.scope x := by first | exact Or.inl rfl | exact Or.inr (Or.inl rfl) | exact Or.inr (Or.inr rfl)) (hd : (x == ("__debug__" : Str)) = false := by decide)
    (hcd : (x == ("__classdict__" : Str)) = false := by decide)
    (hbase : attributeBase (.Name x p) "extend" X.env (eval (.Name x p) X.env) = eval (.Name x p) X.env := by rfl)
    (hfew : ((backTo cp (starEach [e] X.env)).all (fun x => !x.1) && (backToKw cp (keywordEach [] X.env)).all (fun x => x.1.isSome)
      && decide ([e].length + ([] : List Keyword).length + (if ([] : List Keyword).isEmpty then 0 else 1) < 30)) = true := by rfl)
    (hline : (ap.endLine == cp.line) = true := by rfl) (hs : starEach [e] X.env = (false, eval e X.env) :: starEach [] X.env := by rfl)
    (hsw : swapsWith (.Call (.Attribute (.Name x p) "extend" ap) [e] [] cp) none pos.line X.env = pure false := by rfl) :
    PPS X (.Expr (.Call (.Attribute (.Name x p) "extend" ap) [e] [] cp) pos) (tDrop (tBM X.K "list" rExtend (tVar i) (tCons te tNil))) (pExtend i Te) := ⟨ps_expr (pe_bm PySem.F.plainAttrs_list PySem.F.slot_list_extend PySem.F.type_list_extend mt_extend (pe_var hN hv hd hcd) (pa_cons he.pe pa_nil hs) hbase hfew hline hs rfl) hsw, fun G F H σ ρ P D S hT r => by
  unfold pExtend at hT
  split at hT
  · rename_i a xs e0
    obtain ⟨h1, h2, h3, vs, h4, h5⟩ := S.own i a xs e0
    refine ⟨.ref a, h1, .inl ⟨rfl, _, SqL.of h4⟩, he.snd G F H σ ρ _ _ S hT fun y dy F1 H1 ρ1 u1 S1 r1 q1 => ?_⟩
    cases r1 with
    | @lst b us zs hb rz =>
      obtain ⟨xs1, e1, hz, q⟩ := q1
      obtain ⟨g1, g2, g3, ws, g4, g5⟩ := S1.own i a xs1 e1
      exact ⟨a, b, ws, us, rfl, rfl, g4, S1.hF _ _ hb, by rw [g5.length, rz.length]; exact hz, r.nx F1 _ _ _ u1 (S1.mut e1 (g5.append rz)) q⟩
    | _ => exact q1.elim
  · exact hT.elim⟩
end
section
variable {X : Cx} {elt tg iter : Expr} {ifs : List Expr} {scope : Scope} {own : List (Str × Nat)} {pos : Pos} {wi : TI} {Ti : TAp} {Gp : TGp} {is : List Nat} {Tt : TTp} {Te : TEp} {vs : List Nat}
theorem pps_setLcV {i : Nat} {y : Str} {py spos : Pos} (hc : X.calm = true) (hN : X.N.Nodup) (hi : PPI X tg iter wi Ti) (ok : BlkOk X.N X.env.scope scope own)
    (hg : ∀ (s : Shared) (H : Hp) (C : Addr) (cl : List (Str × Addr)) (fp : List Addr), PTg (X.blk s H scope (compEnvC scope cl C X.env) fp) tg (liftG X.K Gp is) Gp is) (ht : ∀ (s : Shared) (H : Hp) (C : Addr) (cl : List (Str × Addr)) (fp : List Addr), PPTs (X.blk s H scope (compEnvC scope cl C X.env) fp) ifs (liftT X.K Tt) Tt)
    (he : ∀ (s : Shared) (H : Hp) (C : Addr) (cl : List (Str × Addr)) (fp : List Addr), PPE (X.blk s H scope (compEnvC scope cl C X.env) fp) elt (liftE X.K Te) Te)
    (hy : X.N[i]? = some y := by rfl) (hyl : X.env.scope.names.lookup y = some .local := by rfl)
    (hsw : swapsWith (.ListComp elt [⟨tg, iter, ifs, 0⟩] scope pos) (some (.Name y py)) spos.line X.env = pure true := by exact sw_true rfl rfl rfl (by decide +kernel)) (hs : ∀ x, foldedSetIterable iter X.env x = pure x := by intro _; rfl) (hsub : ∀ i ∈ is, i ∈ own.map (·.2) := by decide) :
    PPS X (.Assign [.Name y py] (.ListComp elt [⟨tg, iter, ifs, 0⟩] scope pos) spos) (tAsg (tLc wi (liftG X.K Gp is) (liftT X.K Tt) (liftE X.K Te) (own.map (·.2))) (gName i)) (pSet i (pVal (pLc Ti Gp Tt Te (own.map (·.2))))) :=
  ⟨(pps_setLcL (i := i) hc hN hi ok hg ht he hy hyl hsw hs hsub).ps, snd_set (ppc_val (ppe_lcL (pos := pos) hc hN hi ok hg ht he hs hsub)).snd⟩
end
end Pl
namespace Pl
open PySem PySem.Spec PyProof.Rows L2
variable [TJ]
def signsD (x : Str) : List D := x.cps.toList.map fun c => .str ⟨#[c]⟩
theorem signsD_get {x : Str} {i : Nat} {d : D} (h : (signsD x)[i]? = some d) : ∃ c, x.cps[i]? = some c ∧ d = .str ⟨#[c]⟩ := by
  unfold signsD at h
  rw [List.getElem?_map] at h
  cases e : x.cps.toList[i]? with
  | none => rw [e] at h; cases h
  | some c => rw [e] at h; exact ⟨c, by rw [← Array.getElem?_toList]; exact e, (Option.some.inj h).symm⟩
theorem signsD_len (x : Str) : (signsD x).length = x.cps.size := by simp [signsD]
theorem itrep_str {K : PySem.W.Frag} {F : Hp} (x : Str) : ItRep K (Its x) F (signsD x) := fun F' H e1 e2 => by
  refine ⟨fun i d hd => ?_, by show x.cps.size ≤ (signsD x).length; rw [signsD_len]; exact Nat.le_refl _⟩
  obtain ⟨c, hc, rfl⟩ := signsD_get hd
  refine ⟨(Array.getElem?_eq_some_iff.mp hc).1, fun v H' y => ?_⟩
  obtain ⟨rfl, c', hc', rfl⟩ := y
  rw [hc] at hc'
  cases hc'
  exact ⟨F', .old (.str _)⟩
section
variable {X : Cx} {tg : Expr} {l : Expr} {tl : TE} {Tl : TEp} {pos : Pos}
def jStr (T : TEp) : TAp := fun ρ Q => T ρ fun d ρ1 => match d with | .str x => Q (signsD x) ρ1 | _ => False
theorem ppi_str (hl : PPE X l tl Tl) : PPI X tg l (iStr tl) (jStr Tl) := ⟨pi_str hl.pe, fun G F H σ ρ Q R S hT k =>
  hl.snd G F H σ ρ _ _ S hT fun v d F1 H1 ρ1 u1 S1 r1 q1 => by
    cases r1 with
    | str x => exact ⟨x, rfl, k _ _ F1 H1 ρ1 u1 S1 (itrep_str x) q1⟩
    | _ => exact q1.elim⟩
end
section
variable {X : Cx} {e : Expr} {te : TE} {Te : TEp} {pos : Pos}
def pAugI (i : Nat) (f : Int → Int → Int) (Te : TEp) : TSp := fun P ρ => ∃ a : Int, ρ[i]? = some (some (.val (.int a))) ∧ Te ρ fun d ρ1 => match d with
  | .int b => P.nx (ρ1.set i (some (.val (.int (f a b)))))
  | _ => False
theorem snd_aug {K : PySem.W.Frag} {i : Nat} {f : Int → Int → Int} (he : SndE K te Te) : SndS K (tAug i te (ipI f)) (pAugI i f Te) := fun G F H σ ρ P D S h r => by
  obtain ⟨a, e0, h⟩ := h
  obtain ⟨v, h1, r1⟩ := S.val i _ e0
  cases r1
  refine ⟨_, h1, he G F H σ ρ _ _ S h fun w d F1 H1 ρ1 u1 S1 r2 q => ?_⟩
  cases r2 with
  | int b => exact ⟨a, b, rfl, rfl, r.nx F1 H1 _ _ u1 (S1.setVal i (.int _)) q⟩
  | _ => exact q.elim
theorem pps_augAdd {i : Nat} {x : Str} {pos' : Pos} (hN : X.N.Nodup) (he : PPE X e te Te) (hi : X.N[i]? = some x := by rfl) (hx : Loc X.env.scope x := by first | exact Or.inl rfl | exact Or.inr rfl) (hf : X.fn x = true ∨ X.env.scope.names.lookup x = some .local := by first | exact .inl rfl | exact .inr rfl | assumption) :
    PPS X (.AugAssign (.Name x pos') .Add e pos) (tAug i te (ipI fun i j => i + j)) (pAugI i (fun i j => i + j) Te) := ⟨ps_aug hN hi hx he.pe ip_add hf, snd_aug he.snd⟩
end
end Pl
namespace Pl
open PySem PySem.Spec PyProof.Rows L2
variable [TJ]
section
variable {X : Cx} {a : Expr} {ta : TE} {Ta : TEp} {pos : Pos}
def downD (n : Nat) : List D := (List.range n).map fun (i : Nat) => .int ((n : Int) - 1 - (i : Int))
theorem itrep_down {K : PySem.W.Frag} {F : Hp} (n : Nat) : ItRep K (Itc (0 + (((((n : Int) - 0).toNat : Nat)) : Int) - 1) (-1) ((n : Int) - 0).toNat) F (downD n) := fun F' H e1 e2 => by
  have hn : ((n : Int) - 0).toNat = n := by omega
  refine ⟨fun i d hd => ?_, ?_⟩
  · have hi : i < n := by have := lt_of_get hd; simpa [downD] using this
    refine ⟨by show i < ((n : Int) - 0).toNat; omega, fun x H' y => ?_⟩
    obtain ⟨rfl, rfl⟩ := y
    have e : d = .int ((n : Int) - 1 - i) := by
      unfold downD at hd
      rw [List.getElem?_map, List.getElem?_range hi] at hd
      exact (Option.some.inj hd).symm
    subst e
    have e2 : 0 + (((((n : Int) - 0).toNat : Nat)) : Int) - 1 + (i : Int) * (-1) = (n : Int) - 1 - i := by rw [hn]; omega
    rw [e2]
    exact ⟨F', .old (.int _)⟩
  · show ((n : Int) - 0).toNat ≤ (downD n).length
    simp [downD]
def jRev (T : TEp) : TAp := fun ρ Q => T ρ fun d ρ1 => match d with | .int m => ∃ n : Nat, m = (n : Int) ∧ n < 2 ^ 61 ∧ Q (downD n) ρ1 | _ => False
theorem ppi_rev {tg : Expr} {p q pos2 : Pos} (hg : Gl X "reversed") (hm : X.mg "reversed" = none) (hgr : Gl X "range") (hmr : X.mg "range" = none) (ha : PPE X a ta Ta) (na : starEach [a] X.env = (false, eval a X.env) :: starEach [] X.env := by rfl)
    (nb : starEach [.Call (.Name "range" q) [a] [] pos2] X.env = (false, eval (.Call (.Name "range" q) [a] [] pos2) X.env) :: starEach [] X.env := by rfl) :
    PPI X tg (.Call (.Name "reversed" p) [.Call (.Name "range" q) [a] [] pos2] [] pos) (iRevR (tRg1 ta)) (jRev Ta) := ⟨pi_revR hg hm (prg_1 hgr hmr ha.pe na) nb, fun G F H σ ρ Q R S hT k =>
  ha.snd G F H σ ρ _ _ S hT fun v d F1 H1 ρ1 u1 S1 r1 q1 => by
    cases r1 with
    | int m =>
      obtain ⟨n, rfl, hn, q⟩ := q1
      exact ⟨n, rfl, by omega, by omega, by omega, by omega, k _ _ F1 H1 ρ1 u1 S1 (itrep_down n) q⟩
    | _ => exact q1.elim⟩
end
end Pl
namespace Pl
open PySem PySem.Spec PyProof.Rows L2
variable [TJ]
abbrev TCs := Ro → (List Cell → Ro → Prop) → Prop
def CellOk (K : PySem.W.Frag) (G F H : Hp) (ρ : Ro) (v : V) (c : Cell) : Prop := match c with
  | .val d => Rep K F v d
  | .own p xs => v = .ref p ∧ F p = none ∧ G p = none ∧ NotOwn ρ p ∧ ∃ us, H p = some (.lst us) ∧ Reps K F us xs
  | .box _ => False
def CellsOk (K : PySem.W.Frag) (G F H : Hp) (ρ : Ro) : List V → List Cell → Prop
  | [], [] => True
  | v :: vs, c :: cs => CellOk K G F H ρ v c ∧ CellsOk K G F H ρ vs cs ∧ ∀ p xs, c = .own p xs → ∀ q ys, Cell.own q ys ∈ cs → q ≠ p
  | _, _ => False
def SndCs (K : PySem.W.Frag) (t : TA) (T : TCs) : Prop := ∀ (G F H : Hp) (σ : L2.St) (ρ : Ro) (Q : List Cell → Ro → Prop) (R : List V → Hp → Prop), Sim K G F H σ ρ → T ρ Q →
  (∀ vs cs F' H' ρ', Up G F F' → Sim K G F' H' σ ρ' → CellsOk K G F' H' ρ' vs cs → Q cs ρ' → R vs H') → t σ H R
structure PPCs (X : Cx) (es : List Expr) (t : TA) (T : TCs) : Prop where
  pa : PA X es t
  snd : SndCs X.K t T
theorem CellsOk.gone {K : PySem.W.Frag} {G F H : Hp} {ρ : Ro} {p : Addr} {o : HO} : ∀ {vs : List V} {cs : List Cell}, CellsOk K (upd G p o) F H ρ vs cs → ∀ q ys, Cell.own q ys ∈ cs → q ≠ p
  | [], [], _, q, ys, h => by simp at h
  | v :: vs, c :: cs, g, q, ys, h => by
    rcases List.mem_cons.mp h with e | h
    · subst e
      intro z
      have := g.1.2.2.1
      rw [z, upd_same] at this
      cases this
    · exact CellsOk.gone g.2.1 q ys h
  | [], _ :: _, g, _, _, _ => g.elim
  | _ :: _, [], g, _, _, _ => g.elim
theorem CellsOk.less {K : PySem.W.Frag} {G F H : Hp} {ρ : Ro} {p : Addr} {o : HO} : ∀ {vs : List V} {cs : List Cell}, CellsOk K (upd G p o) F H ρ vs cs → CellsOk K G F H ρ vs cs
  | [], [], _ => trivial
  | v :: vs, c :: cs, g => by
    refine ⟨?_, CellsOk.less g.2.1, g.2.2⟩
    cases c with
    | val d => exact g.1
    | own q xs =>
      obtain ⟨h1, h2, h3, h4⟩ := g.1
      have n : q ≠ p := fun z => by rw [z, upd_same] at h3; cases h3
      exact ⟨h1, h2, by rw [upd_ne n] at h3; exact h3, h4⟩
    | box s => exact g.1
  | [], _ :: _, g => g.elim
  | _ :: _, [], g => g.elim
section
variable {X : Cx} {e : Expr} {es : List Expr} {te : TE} {t : TA} {T : TCs} {Tc : TCp} {pos : Pos}
def pNilC : TCs := fun ρ Q => Q [] ρ
def pConsC (Tc : TCp) (T : TCs) : TCs := fun ρ Q => Tc ρ fun c ρ1 => match c with
  | .val d => T ρ1 fun cs ρ2 => Q (.val d :: cs) ρ2
  | .own p xs => T ρ1 fun cs ρ2 => Q (.own p xs :: cs) ρ2
  | .box _ => False
theorem ppcs_nil : PPCs X [] tNil pNilC := ⟨pa_nil, fun G F H σ ρ Q R S hT k => k [] [] F H ρ (.refl _ _) S trivial hT⟩
theorem ppcs_cons (h1 : PPC X e te Tc) (h2 : PPCs X es t T) (hs : starEach (e :: es) X.env = (false, eval e X.env) :: starEach es X.env := by rfl) : PPCs X (e :: es) (tCons te t) (pConsC Tc T) := ⟨pa_cons h1.pe h2.pa hs, fun G F H σ ρ Q R S hT k =>
  h1.snd G F H σ ρ _ _ S hT fun v c F1 H1 ρ1 u1 S1 q1 => by
    cases c with
    | val d =>
      have r := S1.lastVal
      refine h2.snd G F1 H1 σ ρ1 _ _ S1.drop q1 fun vs cs F2 H2 ρ2 u2 S2 o2 q2 => k (v :: vs) (.val d :: cs) F2 H2 ρ2 (u1.trans u2) S2 ⟨r.mono u2.ex, o2, fun p xs z => by cases z⟩ q2
    | own p xs =>
      obtain ⟨rfl, h2', h3, h4, us, h5, h6⟩ := S1.lastOwn
      have S0 := S1.drop
      have SG : Sim X.K (upd G p (.lst us)) F1 H1 σ ρ1 := by
        refine ⟨S0.hF, S0.hG.guard h5, S0.len, S0.val, fun i b ys q => ?_, S0.ne, S0.bx.guard h4.2⟩
        · obtain ⟨g1, g2, g3, g4⟩ := S0.own i b ys q
          have n : b ≠ p := fun z => by subst z; exact h4.1 i ys q
          exact ⟨g1, g2, by rw [upd_ne n]; exact g3, g4⟩
      refine h2.snd (upd G p (.lst us)) F1 H1 σ ρ1 _ _ SG q1 fun vs cs F2 H2 ρ2 u2 S2 o2 q2 => ?_
      have hp2 : H2 p = some (.lst us) := S2.hG p _ upd_same
      have fp2 : F2 p = none := u2.isNone h2' upd_same
      have np2 : NotOwn ρ2 p := ⟨fun i ys q => (by
        have := (S2.own i p ys q).2.2.1
        rw [upd_same] at this; cases this), S2.bx.notG upd_same⟩
      have up2 : Up G F1 F2 := u2.less (same_new h3)
      have SF : Sim X.K G F2 H2 σ ρ2 := by
        refine ⟨S2.hF, S2.hG.less (same_new h3), S2.len, S2.val, fun i b ys q => ?_, S2.ne, S2.bx.unguard (same_new h3)⟩
        obtain ⟨g1, g2, g3, g4⟩ := S2.own i b ys q
        have n : b ≠ p := fun z => by rw [z, upd_same] at g3; cases g3
        exact ⟨g1, g2, by rw [upd_ne n] at g3; exact g3, g4⟩
      refine k (.ref p :: vs) (.own p xs :: cs) F2 H2 ρ2 (u1.trans up2) SF ⟨⟨rfl, fp2, h3, np2, us, hp2, h6.mono u2.ex⟩, o2.less, fun q xs' z w ys hw => ?_⟩ q2
      cases z
      exact o2.gone w ys hw
    | box s => exact q1.elim⟩
theorem Sim.put {K : PySem.W.Frag} {G F H : Hp} {σ : L2.St} {ρ : Ro} {v : V} {c : Cell} (S : Sim K G F H σ ρ) (i : Nat) (h : CellOk K G F H ρ v c) : Sim K G F H (σ.set i (some v)) (ρ.set i (some c)) := by
  cases c with
  | val d => exact S.setVal i h
  | own p xs =>
    obtain ⟨rfl, h2, h3, h4, us, h5, h6⟩ := h
    exact S.setOwn i h5 h2 h3 h4 h6
  | box s => exact h.elim
theorem NotOwn.put {ρ : Ro} {p : Addr} {c : Cell} {i : Nat} (h : NotOwn ρ p) (hb : ∀ t, c ≠ .box t) (hc : ∀ q ys, c = .own q ys → p ≠ q) : NotOwn (ρ.set i (some c)) p := ⟨fun j ys e => (by
  by_cases hj : i = j
  · subst hj
    by_cases hi : i < ρ.length
    · rw [List.getElem?_set_self hi] at e
      cases e
      exact hc _ _ rfl rfl
    · rw [List.getElem?_eq_none (by simpa using hi)] at e; cases e
  · rw [List.getElem?_set_ne hj] at e; exact h.1 j ys e), fun m => h.2 (set_inbox (fun t z => hb t (Option.some.inj z)) m)⟩
theorem CellOk.put {K : PySem.W.Frag} {G F H : Hp} {ρ : Ro} {v : V} {c c' : Cell} {i : Nat} (h : CellOk K G F H ρ v c) (hb : ∀ t, c' ≠ .box t) (hc : ∀ p xs, c' = .own p xs → ∀ q ys, c = .own q ys → q ≠ p) : CellOk K G F H (ρ.set i (some c')) v c := by
  cases c with
  | val d => exact h
  | own p xs =>
    obtain ⟨h1, h2, h3, h4, h5⟩ := h
    exact ⟨h1, h2, h3, h4.put hb fun q ys e => hc q ys e p xs rfl, h5⟩
  | box s => exact h.elim
theorem CellOk.noBox {K : PySem.W.Frag} {G F H : Hp} {ρ : Ro} {v : V} {c : Cell} (h : CellOk K G F H ρ v c) : ∀ t, c ≠ .box t := fun t e => by subst e; exact h
theorem CellsOk.len {K : PySem.W.Frag} {G F H : Hp} {ρ : Ro} : ∀ {vs : List V} {cs : List Cell}, CellsOk K G F H ρ vs cs → vs.length = cs.length
  | [], [], _ => rfl
  | _ :: _, _ :: _, h => congrArg (· + 1) (CellsOk.len h.2.1)
  | [], _ :: _, h => h.elim
  | _ :: _, [], h => h.elim
theorem two_cells {f : Cell → Cell → Prop} : ∀ {cs : List Cell}, (match cs with | [x, y] => f x y | _ => False) → cs.length = 2
  | [], h => h.elim
  | [_], h => h.elim
  | [_, _], _ => rfl
  | _ :: _ :: _ :: _, h => h.elim
theorem three_cells {f : Cell → Cell → Cell → Prop} : ∀ {cs : List Cell}, (match cs with | [x, y, z] => f x y z | _ => False) → cs.length = 3
  | [], h => h.elim
  | [_], h => h.elim
  | [_, _], h => h.elim
  | [_, _, _], _ => rfl
  | _ :: _ :: _ :: _ :: _, h => h.elim
theorem len_two {α : Type} : ∀ {l : List α}, l.length = 2 → ∃ a b, l = [a, b]
  | [a, b], _ => ⟨a, b, rfl⟩
theorem len_three {α : Type} : ∀ {l : List α}, l.length = 3 → ∃ a b c, l = [a, b, c]
  | [a, b, c], _ => ⟨a, b, c, rfl⟩
def pParC (i j : Nat) (T : TCs) : TSp := fun P ρ => T ρ fun cs ρ1 => match cs with | [x, y] => P.nx ((ρ1.set i (some x)).set j (some y)) | _ => False
theorem pps_parC {i j : Nat} {x y : Str} {a b : Expr} {ta : TA} {px py pt : Pos} {kt k2 pt2} (hc : X.calm = true) (hN : X.N.Nodup) (ha : PPCs X [a, b] ta T) (hi : X.N[i]? = some x := by rfl) (hj : X.N[j]? = some y := by rfl) (hij : i ≠ j := by decide)
    (hx : X.env.scope.names.lookup x = some .local := by rfl) (hy : X.env.scope.names.lookup y = some .local := by rfl)
    (hw : swappedStores [.Tuple [.Name x px, .Name y py] kt pt] (.Tuple [a, b] k2 pt2) X.env = pure (some [x, y]) := by rfl)
    (hs : swapsWithSole [.Tuple [.Name x px, .Name y py] kt pt] (.Tuple [a, b] k2 pt2) pos.line X.env = pure false := by rfl) :
    PPS X (.Assign [.Tuple [.Name x px, .Name y py] kt pt] (.Tuple [a, b] k2 pt2) pos) (tPar i j ta) (pParC i j T) := ⟨ps_par hc hN hi hj hij hx hy ha.pa hw hs, fun G F H σ ρ P D S hT r =>
  ha.snd G F H σ ρ _ _ S hT fun vs cs F' H' ρ' u S' o q => by
    have l2 := two_cells q
    obtain ⟨c1, c2, rfl⟩ := len_two l2
    obtain ⟨v1, v2, rfl⟩ := len_two (o.len.trans l2)
    refine ⟨v1, v2, rfl, r.nx F' H' _ _ u ((S'.put i o.1).put j (o.2.1.1.put o.1.noBox fun p xs e w ys e2 => ?_)) q⟩
    subst e2
    exact o.2.2 p xs e w ys (by simp)⟩
def pParC3 (i j l : Nat) (T : TCs) : TSp := fun P ρ => T ρ fun cs ρ1 => match cs with | [x, y, z] => P.nx (((ρ1.set i (some x)).set j (some y)).set l (some z)) | _ => False
theorem pps_parC3 {i j l : Nat} {x y z : Str} {a b c : Expr} {ta : TA} {px py pz pt : Pos} {kt k2 pt2} (hc : X.calm = true) (hN : X.N.Nodup) (ha : PPCs X [a, b, c] ta T) (hi : X.N[i]? = some x := by rfl) (hj : X.N[j]? = some y := by rfl) (hl : X.N[l]? = some z := by rfl) (hij : i ≠ j := by decide) (hil : i ≠ l := by decide) (hjl : j ≠ l := by decide)
    (hx : X.env.scope.names.lookup x = some .local := by rfl) (hy : X.env.scope.names.lookup y = some .local := by rfl) (hz : X.env.scope.names.lookup z = some .local := by rfl)
    (hw : swappedStores [.Tuple [.Name x px, .Name y py, .Name z pz] kt pt] (.Tuple [a, b, c] k2 pt2) X.env = pure (some [x, y, z]) := by rfl)
    (hs : swapsWithSole [.Tuple [.Name x px, .Name y py, .Name z pz] kt pt] (.Tuple [a, b, c] k2 pt2) pos.line X.env = pure false := by rfl) :
    PPS X (.Assign [.Tuple [.Name x px, .Name y py, .Name z pz] kt pt] (.Tuple [a, b, c] k2 pt2) pos) (tPar3 i j l ta) (pParC3 i j l T) := ⟨ps_par3 hc hN hi hj hl hij hil hjl hx hy hz ha.pa hw hs, fun G F H σ ρ P D S hT r =>
  ha.snd G F H σ ρ _ _ S hT fun vs cs F' H' ρ' u S' o q => by
    have l3 := three_cells q
    obtain ⟨c1, c2, c3, rfl⟩ := len_three l3
    obtain ⟨v1, v2, v3, rfl⟩ := len_three (o.len.trans l3)
    refine ⟨v1, v2, v3, rfl, r.nx F' H' _ _ u (((S'.put i o.1).put j (o.2.1.1.put o.1.noBox fun p xs e w ys e2 => ?_)).put l ((o.2.1.2.1.1.put o.1.noBox fun p xs e w ys e2 => ?_).put o.2.1.1.noBox fun p xs e w ys e2 => ?_)) q⟩
    · subst e2; exact o.2.2 p xs e w ys (by simp)
    · subst e2; exact o.2.2 p xs e w ys (by simp)
    · subst e2; exact o.2.1.2.2 p xs e w ys (by simp)⟩
end
end Pl
namespace Pl
open PySem PySem.Spec PyProof.Rows L2
variable [TJ]
section
variable {X : Cx} {a b : Expr} {ta tb : TE} {Ta Tb : TEp} {pos : Pos}
def rMulS : R2 := fun x y H Q => ∃ i j, x = .str i ∧ y = .int j ∧ MulOk i j ∧ Q (.str (Txt.mul i j)) H
theorem op_mulS : OpR X (binaryOp .Mult) rMulS := by
  intro pins s σ H x y v u Q I rx ry h
  obtain ⟨i, j, rfl, rfl, hz, q⟩ := h
  obtain ⟨t, rfl⟩ := rx
  obtain ⟨t', rfl⟩ := ry
  exact PySem.SB.mul hz fun t' k => ⟨.str (Txt.mul i j), H, I.tok _, ⟨_, rfl⟩, q⟩
def fMulS : F2 := fun x y Q => match x, y with
  | .str i, .int j => MulOk i j ∧ Q (.str (Txt.mul i j))
  | _, _ => False
theorem ppe_mulS (ha : PPE X a ta Ta) (hb : PPE X b tb Tb) : PPE X (.BinOp a .Mult b pos) (tOp rMulS ta tb) (pOp fMulS Ta Tb) := ppe_op op_mulS (fun F H x y dx dy Q R hs rx ry hf k => by
  cases rx with
  | str i =>
    cases ry with
    | int j => exact ⟨i, j, rfl, rfl, hf.1, k _ _ _ _ (.old (.str _)) hf.2⟩
    | _ => exact hf.elim
  | _ => exact hf.elim) ha hb
theorem mulOk_small {x : Str} {n : Int} (hx : x.length ≤ 10) (h0 : 0 ≤ n) (h1 : n ≤ 1000) : MulOk x n := by
  have hm : (x.length : Int) * n ≤ 10 * 1000 := Int.mul_le_mul (by omega) h1 h0 (by decide)
  refine ⟨by simp; omega, fun h _ => ?_, fun h _ => ?_⟩
  · have : (x.length : Int) ≤ (2 ^ 63 - 1) / n := Int.le_ediv_of_mul_le (by omega) (by omega)
    omega
  · unfold Builtin.Str.tooLong
    have h2 : x.length * n.toNat ≤ 10 * 1000 := Nat.mul_le_mul hx (by omega)
    rw [sizeLine_eq]
    simp
    omega
end
end Pl
namespace Pl
open PySem PySem.Spec PyProof.Rows L2
variable [TJ]
section
variable {X : Cx} {e : Expr} {es : List Expr} {te : TE} {Te : TEp} {t : TA} {T : TAp} {p : Pos}
def pStar (Te : TEp) (T : TAp) : TAp := fun ρ Q => Te ρ fun d ρ1 => asSeq d fun xs => T ρ1 fun ys ρ2 => Q (xs ++ ys) ρ2
theorem ppa_star (he : PPE X e te Te) (hr : PPA X es t T) (hs : starEach (.Starred e p :: es) X.env = (true, eval e X.env) :: starEach es X.env := by rfl) : PPA X (.Starred e p :: es) (StX.tStar X.K te t) (pStar Te T) := ⟨StX.pa_star he.pe hr.pa hs, fun G F H σ ρ Q R S hT k =>
  he.snd G F H σ ρ _ _ S hT fun v d F1 H1 ρ1 u1 S1 r1 q1 => by
    obtain ⟨a, b, vs, ds, rfl, e1, rs, q⟩ := r1.seq q1
    refine ⟨a, vs, rfl, ?_, hr.snd G F1 H1 σ ρ1 _ _ S1 q fun ws es2 F2 H2 ρ2 u2 S2 r2 q2 => k (vs ++ ws) (ds ++ es2) F2 H2 ρ2 (u1.trans u2) S2 ((rs.mono u2.ex).append r2) q2⟩
    cases b with
    | true => exact .inr (SqL.of (S1.hF _ _ e1))
    | false => exact .inl (SqT.of (S1.hF _ _ e1))⟩
end
theorem Sim.moreG {K : PySem.W.Frag} {G F H : Hp} {σ : L2.St} {ρ : Ro} (S : Sim K G F H σ ρ) {a : Addr} {vs : List V} (hH : H a = some (.lst vs)) (hG : G a = none) (hn : NotOwn ρ a) : Sim K (upd G a (.lst vs)) F H σ ρ := by
  refine ⟨S.hF, S.hG.guard hH, S.len, S.val, fun i b xs e => ?_, S.ne, S.bx.guard hn.2⟩
  · obtain ⟨h1, h2, h3, h4⟩ := S.own i b xs e
    have q : b ≠ a := fun z => by subst z; exact hn.1 i xs e
    exact ⟨h1, h2, by rw [upd_ne q]; exact h3, h4⟩
theorem Sim.lessG {K : PySem.W.Frag} {G G' F H : Hp} {σ : L2.St} {ρ : Ro} (S : Sim K G' F H σ ρ) (h : Same G G') : Sim K G F H σ ρ :=
  ⟨S.hF, S.hG.less h, S.len, S.val, fun i b xs e => let ⟨h1, h2, h3, h4⟩ := S.own i b xs e; ⟨h1, h2, h.free h3, h4⟩, S.ne, S.bx.unguard h⟩
theorem Sim.mid {K : PySem.W.Frag} {G F H : Hp} {σ : L2.St} {ρ : Ro} {u v : V} {b c : Cell} (S : Sim K G F H ((σ ++ [some u]) ++ [some v]) ((ρ ++ [some b]) ++ [some c])) : Sim K G F H (σ ++ [some v]) (ρ ++ [some c]) := by
  have B := S.drop.drop
  cases c with
  | val d => exact B.pushVal S.lastVal
  | own a xs =>
    obtain ⟨rfl, h2, h3, h4, vs, h5, h6⟩ := S.lastOwn
    refine B.pushOwn h5 h2 h3 ⟨fun i ys e => h4.1 i ys (at_more e), fun ⟨i, t, e, m⟩ => h4.2 ⟨i, t, at_more e, m⟩⟩ h6
  | box s =>
    obtain ⟨rfl, h2, h3, h4⟩ := S.lastBox
    exact B.pushBox h2 h3 fun p m => ⟨fun i ys e => (h4 p m).1 i ys (at_more e), fun ⟨i, t, e, m'⟩ => (h4 p m).2 ⟨i, t, at_more e, m'⟩⟩
section
variable {X : Cx} {k : Nat} {f : Addr} {fd : FuncData} {ps : List Str} {x : Str} {p pos : Pos} {e : Expr} {es : List Expr} {te : TE} {Tc : TCp} {t : TA} {T : TAp} {n : Nat}
def pCallX (n : Nat) (g : FB) (Tc : TCp) (T : TAp) : TCp := fun ρ Q => Tc ρ fun c ρ1 => match c with
  | .own _ xs => T ρ1 fun ds ρ2 => ds.length + 1 = n ∧ g xs ds fun c' _ => Q c' ρ2
  | .val _ => False
  | .box _ => False
theorem ppc_callX {g : FB} (Fn : FnOk X.prog X.w X.K X.mg X.base CX0 k f fd ps (spB X.K n g)) (hr : Room k X.A) (hg : Gl X x) (hm : X.mg x = some (.ref f)) (hk : PySem.W.keepIn X.K (.ref f) = true) (hb : Binds X.K fd ps []) (hc : PPC X e te Tc) (ha : PPA X es t T)
    (hdb : (x == ("__debug__" : Str)) = false := by decide) (he : starEach (e :: es) X.env = (false, eval e X.env) :: starEach es X.env := by rfl) (hpl : (backTo pos (starEach es X.env)).any (·.1) = false := by rfl) :
    PPC X (.Call (.Name x p) (e :: es) [] pos) (tCall (spB X.K n g) [] (fun _ _ _ => False) (tCons te t)) (pCallX n g Tc T) := ⟨pe_call Fn hr hg hm hk hb .nil pass0 (pa_cons hc.pe ha.pa he) hdb he hpl, fun G F H σ ρ Q R S hT k =>
  hc.snd G F H σ ρ _ _ S hT fun v c F1 H1 ρ1 u1 S1 q1 => by
    cases c with
    | val d => exact q1.elim
    | box s => exact q1.elim
    | own a xs =>
      obtain ⟨rfl, h2, h3, h4, us, h5, h6⟩ := S1.lastOwn
      have sG : Same G (upd G a (.lst us)) := same_new h3
      refine ha.snd (upd G a (.lst us)) F1 H1 σ ρ1 _ _ (S1.drop.moreG h5 h3 h4) q1 fun vs ds F2 H2 ρ2 u2 S2 r2 q2 => ?_
      have hH2 : H2 a = some (.lst us) := S2.hG a _ upd_same
      have hF2 : F2 a = none := u2.isNone h2 upd_same
      have hn2 : NotOwn ρ2 a := ⟨fun i ys z => (by
        obtain ⟨_, _, g3, _⟩ := S2.own i a ys z
        rw [upd_same] at g3; cases g3), S2.bx.notG upd_same⟩
      have S3 := (S2.lessG sG).pushOwn hH2 hF2 h3 hn2 (h6.mono u2.ex)
      show spB X.K n g ((.ref a :: vs) ++ []) H2 R _
      rw [List.append_nil]
      refine ⟨F2, a, us, xs, vs, ds, _, rfl, by rw [List.length_cons, r2.length]; exact q2.1, S2.hF, hF2, hH2, h6.mono u2.ex, r2, q2.2, fun v c xs' F' H' u S' q => ?_⟩
      have hGh : Same G (hide H2 a) := fun b o qq => by
        have nb : b ≠ a := fun z => by rw [z, h3] at qq; cases qq
        rw [hide_ne nb]; exact S2.hG b o (sG b o qq)
      have S4 := S3.afterB (xs := xs) (i := ρ2.length) (by simp) u S'
      rw [show (ρ2 ++ [some (Cell.own a xs)]).set ρ2.length (some (.own a xs')) = ρ2 ++ [some (.own a xs')] by simp] at S4
      exact k v c F' H' ρ2 ((u1.trans (u2.less sG)).trans (u.less hGh)) S4.mid q⟩
end
end Pl
namespace Pl
def cutFrom (s p : Int) : List Int → List Int
  | [] => []
  | h :: r => min h (p + s) :: cutFrom s (min h (p + s)) r
def cutOn (s : Int) : List Int → List Int
  | [] => []
  | x :: r => x :: cutFrom s x r
def cutBack (s : Int) : List Int → List Int
  | [] => []
  | x :: r => match cutBack s r with
    | [] => [x]
    | b :: t => min x (b + s) :: b :: t
def cutTo (s : Int) (ns : List Int) : List Int := (cutOn s (cutOn s ns).reverse).reverse
def fillTo (s : Int) (ns : List Int) : List Int := (cutTo s (ns.map (fun x => -x))).map (fun x => -x)
def UpL (s : Int) : List Int → Prop
  | x :: y :: r => y ≤ x + s ∧ UpL s (y :: r)
  | _ => True
def UpR (s : Int) : List Int → Prop
  | x :: y :: r => x ≤ y + s ∧ UpR s (y :: r)
  | _ => True
def Gentle (s : Int) (l : List Int) : Prop := UpL s l ∧ UpR s l
def Lq : List Int → List Int → Prop
  | x :: xs, y :: ys => x ≤ y ∧ Lq xs ys
  | [], [] => True
  | _, _ => False
theorem Lq.refl : ∀ l : List Int, Lq l l
  | [] => trivial
  | x :: l => ⟨Int.le_refl x, Lq.refl l⟩
theorem Lq.trans : ∀ {a b c : List Int}, Lq a b → Lq b c → Lq a c
  | [], [], [], _, _ => trivial
  | x :: a, y :: b, z :: c, h, g => ⟨Int.le_trans h.1 g.1, Lq.trans h.2 g.2⟩
  | [], [], _ :: _, _, g => g.elim
  | [], _ :: _, _, h, _ => h.elim
  | _ :: _, [], _, h, _ => h.elim
  | _ :: _, _ :: _, [], _, g => g.elim
theorem Lq.antisymm : ∀ {a b : List Int}, Lq a b → Lq b a → a = b
  | [], [], _, _ => rfl
  | x :: a, y :: b, h, g => by rw [Int.le_antisymm h.1 g.1, Lq.antisymm h.2 g.2]
  | [], _ :: _, h, _ => h.elim
  | _ :: _, [], h, _ => h.elim
theorem Lq.length : ∀ {a b : List Int}, Lq a b → a.length = b.length
  | [], [], _ => rfl
  | _ :: a, _ :: b, h => by simp [Lq.length h.2]
  | [], _ :: _, h => h.elim
  | _ :: _, [], h => h.elim
theorem Lq.neg : ∀ {a b : List Int}, Lq a b → Lq (b.map (fun x => -x)) (a.map (fun x => -x))
  | [], [], _ => trivial
  | x :: a, y :: b, h => ⟨by show -y ≤ -x; have := h.1; omega, Lq.neg h.2⟩
  | [], _ :: _, h => h.elim
  | _ :: _, [], h => h.elim
theorem neg_neg_map (l : List Int) : (l.map (fun x => -x)).map (fun x => -x) = l := by
  rw [List.map_map]
  have : ((fun x : Int => -x) ∘ fun x => -x) = id := by funext x; simp
  rw [this, List.map_id]
theorem upL_neg {s : Int} : ∀ {l : List Int}, UpL s l → UpR s (l.map (fun x => -x))
  | [], _ => trivial
  | [_], _ => trivial
  | x :: y :: r, h => ⟨by show -x ≤ -y + s; have := h.1; omega, upL_neg (l := y :: r) h.2⟩
theorem upR_neg {s : Int} : ∀ {l : List Int}, UpR s l → UpL s (l.map (fun x => -x))
  | [], _ => trivial
  | [_], _ => trivial
  | x :: y :: r, h => ⟨by show -y ≤ -x + s; have := h.1; omega, upR_neg (l := y :: r) h.2⟩
theorem Gentle.neg {s : Int} {l : List Int} (h : Gentle s l) : Gentle s (l.map (fun x => -x)) := ⟨upR_neg h.2, upL_neg h.1⟩
theorem cutFrom_len (s : Int) : ∀ (p : Int) (l : List Int), (cutFrom s p l).length = l.length
  | _, [] => rfl
  | p, h :: r => by simp [cutFrom, cutFrom_len s _ r]
theorem cutOn_len (s : Int) : ∀ l : List Int, (cutOn s l).length = l.length
  | [] => rfl
  | x :: r => by simp [cutOn, cutFrom_len]
theorem cutTo_len (s : Int) (l : List Int) : (cutTo s l).length = l.length := by
  unfold cutTo
  rw [List.length_reverse, cutOn_len, List.length_reverse, cutOn_len]
theorem fillTo_len (s : Int) (l : List Int) : (fillTo s l).length = l.length := by
  unfold fillTo
  rw [List.length_map, cutTo_len, List.length_map]
theorem cutFrom_snoc (s : Int) (x : Int) : ∀ (p : Int) (l : List Int), cutFrom s p (l ++ [x]) = cutFrom s p l ++ [min x ((cutFrom s p l).getLastD p + s)]
  | p, [] => rfl
  | p, h :: r => by
    show min h (p + s) :: cutFrom s (min h (p + s)) (r ++ [x]) = min h (p + s) :: (cutFrom s (min h (p + s)) r ++ [min x ((min h (p + s) :: cutFrom s (min h (p + s)) r).getLastD p + s)])
    rw [cutFrom_snoc s x _ r, List.getLastD_cons]
theorem cutOn_snoc (s x y : Int) (l : List Int) : cutOn s ((y :: l) ++ [x]) = cutOn s (y :: l) ++ [min x ((cutOn s (y :: l)).getLastD 0 + s)] := by
  show y :: cutFrom s y (l ++ [x]) = y :: (cutFrom s y l ++ [min x ((y :: cutFrom s y l).getLastD 0 + s)])
  rw [cutFrom_snoc, List.getLastD_cons]
theorem cutBack_ne {s : Int} {x : Int} {r : List Int} : cutBack s (x :: r) ≠ [] := by
  unfold cutBack
  split <;> simp
theorem getLastD_rev {α : Type} (d b : α) (t : List α) : ((b :: t).reverse).getLastD d = b := by
  rw [List.reverse_cons, List.getLastD_concat]
theorem cutOn_rev (s : Int) : ∀ l : List Int, cutOn s l.reverse = (cutBack s l).reverse
  | [] => rfl
  | [x] => rfl
  | x :: y :: r => by
    have ih := cutOn_rev s (y :: r)
    have e : (x :: y :: r).reverse = (y :: r).reverse ++ [x] := List.reverse_cons
    rw [e]
    cases h : (y :: r).reverse with
    | nil => simp at h
    | cons z t =>
      rw [cutOn_snoc, ← h, ih]
      show _ = (match cutBack s (y :: r) with
        | [] => [x]
        | b :: t => min x (b + s) :: b :: t).reverse
      cases hb : cutBack s (y :: r) with
      | nil => exact absurd hb cutBack_ne
      | cons b t' =>
        rw [getLastD_rev]
        show (b :: t').reverse ++ [min x (b + s)] = (min x (b + s) :: b :: t').reverse
        rw [List.reverse_cons (a := min x (b + s))]
theorem cutTo_eq (s : Int) (l : List Int) : cutTo s l = cutBack s (cutOn s l) := by
  unfold cutTo
  rw [cutOn_rev, List.reverse_reverse]
theorem cutFrom_le (s : Int) : ∀ (p : Int) (l : List Int), Lq (cutFrom s p l) l
  | _, [] => trivial
  | p, h :: r => ⟨Int.min_le_left _ _, cutFrom_le s _ r⟩
theorem cutOn_le (s : Int) : ∀ l : List Int, Lq (cutOn s l) l
  | [] => trivial
  | x :: r => ⟨Int.le_refl x, cutFrom_le s x r⟩
theorem cutFrom_upL (s : Int) : ∀ (p : Int) (l : List Int), UpL s (p :: cutFrom s p l)
  | _, [] => trivial
  | p, h :: r => ⟨Int.min_le_right _ _, cutFrom_upL s _ r⟩
theorem cutOn_upL (s : Int) : ∀ l : List Int, UpL s (cutOn s l)
  | [] => trivial
  | x :: r => cutFrom_upL s x r
theorem cutBack_le (s : Int) : ∀ l : List Int, Lq (cutBack s l) l
  | [] => trivial
  | x :: r => by
    have ih := cutBack_le s r
    unfold cutBack
    cases hb : cutBack s r with
    | nil => rw [hb] at ih; cases r with
      | nil => exact ⟨Int.le_refl x, trivial⟩
      | cons _ _ => exact ih.elim
    | cons b t => rw [hb] at ih; exact ⟨Int.min_le_left _ _, ih⟩
theorem cutBack_upR (s : Int) : ∀ l : List Int, UpR s (cutBack s l)
  | [] => trivial
  | x :: r => by
    have ih := cutBack_upR s r
    unfold cutBack
    cases hb : cutBack s r with
    | nil => exact trivial
    | cons b t => rw [hb] at ih; exact ⟨Int.min_le_right _ _, ih⟩
theorem cutBack_upL {s : Int} (h0 : 0 ≤ s) : ∀ l : List Int, UpL s l → UpL s (cutBack s l)
  | [], _ => trivial
  | [x], _ => trivial
  | x :: y :: r, h => by
    have ih := cutBack_upL h0 (y :: r) h.2
    have le := cutBack_le s (y :: r)
    show UpL s (match cutBack s (y :: r) with | [] => [x] | b :: t => min x (b + s) :: b :: t)
    cases hb : cutBack s (y :: r) with
    | nil => exact trivial
    | cons b t =>
      rw [hb] at ih le
      have h1 := h.1
      have h2 : b ≤ y := le.1
      refine ⟨?_, ih⟩
      omega
theorem cutFrom_max {s : Int} : ∀ {p q : Int} {b l : List Int}, q ≤ p → UpL s (q :: b) → Lq b l → Lq b (cutFrom s p l)
  | _, _, [], [], _, _, _ => trivial
  | p, q, x :: b, h :: r, hq, hu, hl => by
    have h1 := hu.1
    have h2 := hl.1
    have h3 : x ≤ min h (p + s) := by omega
    exact ⟨h3, cutFrom_max h3 hu.2 hl.2⟩
  | _, _, [], _ :: _, _, _, h => h.elim
  | _, _, _ :: _, [], _, _, h => h.elim
theorem cutOn_max {s : Int} : ∀ {b l : List Int}, UpL s b → Lq b l → Lq b (cutOn s l)
  | [], [], _, _ => trivial
  | x :: b, y :: l, hu, hl => ⟨hl.1, cutFrom_max hl.1 hu hl.2⟩
  | [], _ :: _, _, h => h.elim
  | _ :: _, [], _, h => h.elim
theorem cutBack_max {s : Int} : ∀ {b l : List Int}, UpR s b → Lq b l → Lq b (cutBack s l)
  | [], [], _, _ => trivial
  | [x], [y], _, hl => hl
  | x :: z :: b, y :: w :: l, hu, hl => by
    have ih := cutBack_max (b := z :: b) (l := w :: l) hu.2 hl.2
    show Lq (x :: z :: b) (match cutBack s (w :: l) with | [] => [y] | b :: t => min y (b + s) :: b :: t)
    cases hb : cutBack s (w :: l) with
    | nil => exact absurd hb cutBack_ne
    | cons c t =>
      rw [hb] at ih
      have h1 := hu.1
      have h2 := hl.1
      have h3 := ih.1
      exact ⟨by omega, ih⟩
  | [_], _ :: _ :: _, _, h => h.2.elim
  | _ :: _ :: _, [_], _, h => h.2.elim
  | [], _ :: _, _, h => h.elim
  | _ :: _, [], _, h => h.elim
theorem cutTo_gentle {s : Int} (h0 : 0 ≤ s) (l : List Int) : Gentle s (cutTo s l) := by
  rw [cutTo_eq]
  exact ⟨cutBack_upL h0 _ (cutOn_upL s l), cutBack_upR s _⟩
theorem cutTo_le (s : Int) (l : List Int) : Lq (cutTo s l) l := by
  rw [cutTo_eq]
  exact (cutBack_le s _).trans (cutOn_le s l)
theorem cutTo_max {s : Int} {b l : List Int} (hb : Gentle s b) (h : Lq b l) : Lq b (cutTo s l) := by
  rw [cutTo_eq]
  exact cutBack_max hb.2 (cutOn_max hb.1 h)
theorem fillTo_gentle {s : Int} (h0 : 0 ≤ s) (l : List Int) : Gentle s (fillTo s l) := (cutTo_gentle h0 _).neg
theorem fillTo_ge (s : Int) (l : List Int) : Lq l (fillTo s l) := by
  have := (cutTo_le s (l.map (fun x => -x))).neg
  rw [neg_neg_map] at this
  exact this
theorem fillTo_min {s : Int} {b l : List Int} (hb : Gentle s b) (h : Lq l b) : Lq (fillTo s l) b := by
  have := (cutTo_max hb.neg h.neg).neg
  rw [neg_neg_map] at this
  exact this
theorem cutTo_idle {s : Int} (h0 : 0 ≤ s) {l : List Int} : cutTo s l = l ↔ Gentle s l :=
  ⟨fun h => h ▸ cutTo_gentle h0 l, fun h => (cutTo_le s l).antisymm (cutTo_max h (Lq.refl l))⟩
theorem fillTo_idle {s : Int} (h0 : 0 ≤ s) {l : List Int} : fillTo s l = l ↔ Gentle s l :=
  ⟨fun h => h ▸ fillTo_gentle h0 l, fun h => (fillTo_min h (Lq.refl l)).antisymm (fillTo_ge s l)⟩
end Pl
namespace Pl
def aI (i : Int) : Int := if i < 0 then -i else i
def reach (s : Int) (l : List Int) (i : Int) : List Int := (List.range l.length).map fun (j : Nat) => l.getD j 0 + s * aI (i - (j : Int))
def reachF (s : Int) (l : List Int) (i : Int) : List Int := (List.range l.length).map fun (j : Nat) => l.getD j 0 - s * aI (i - (j : Int))
end Pl
namespace Pl
theorem UpL.mono {s t : Int} (h : s ≤ t) : ∀ {l : List Int}, UpL s l → UpL t l
  | [], _ => trivial
  | [_], _ => trivial
  | x :: y :: r, g => ⟨by have := g.1; omega, UpL.mono h g.2⟩
theorem UpR.mono {s t : Int} (h : s ≤ t) : ∀ {l : List Int}, UpR s l → UpR t l
  | [], _ => trivial
  | [_], _ => trivial
  | x :: y :: r, g => ⟨by have := g.1; omega, UpR.mono h g.2⟩
theorem Gentle.mono {s t : Int} (h : s ≤ t) {l : List Int} (g : Gentle s l) : Gentle t l := ⟨g.1.mono h, g.2.mono h⟩
theorem upL_append {s x y : Int} : ∀ {a b : List Int}, UpL s (a ++ [x]) → UpL s (y :: b) → y ≤ x + s → UpL s (a ++ x :: y :: b)
  | [], _, _, h2, h => ⟨h, h2⟩
  | [a], _, h1, h2, h => ⟨h1.1, h, h2⟩
  | a :: c :: l, _, h1, h2, h => ⟨h1.1, upL_append (a := c :: l) h1.2 h2 h⟩
theorem upR_append {s x y : Int} : ∀ {a b : List Int}, UpR s (a ++ [x]) → UpR s (y :: b) → x ≤ y + s → UpR s (a ++ x :: y :: b)
  | [], _, _, h2, h => ⟨h, h2⟩
  | [a], _, h1, h2, h => ⟨h1.1, h, h2⟩
  | a :: c :: l, _, h1, h2, h => ⟨h1.1, upR_append (a := c :: l) h1.2 h2 h⟩
theorem upL_reverse {s : Int} : ∀ {l : List Int}, UpL s l → UpR s l.reverse
  | [], _ => trivial
  | [_], _ => trivial
  | x :: y :: r, h => by
    have ih := upL_reverse (l := y :: r) h.2
    rw [List.reverse_cons] at ih ⊢
    rw [List.reverse_cons, List.append_assoc]
    exact upR_append ih trivial h.1
theorem upR_reverse {s : Int} : ∀ {l : List Int}, UpR s l → UpL s l.reverse
  | [], _ => trivial
  | [_], _ => trivial
  | x :: y :: r, h => by
    have ih := upR_reverse (l := y :: r) h.2
    rw [List.reverse_cons] at ih ⊢
    rw [List.reverse_cons, List.append_assoc]
    exact upL_append ih trivial h.1
theorem Gentle.reverse {s : Int} {l : List Int} (h : Gentle s l) : Gentle s l.reverse := ⟨upR_reverse h.2, upL_reverse h.1⟩
end Pl
namespace Pl
open PySem PySem.Spec PyProof.Rows L2
abbrev N_mirrored : List Str := [("dune" : Str)]
def T_mirrored : TSp :=
  (pRet (pVal (pCB fTup (pCons (pUn fRev (pVar 0)) pNil))))
abbrev N_upside : List Str := [("dune" : Str), ("height" : Str)]
def T_upside : TSp :=
  (pRet (pVal (pCB fTup (pCons (pLc (jSeq (pVar 0)) (hName 1) pYes (pUn fNeg (pVar 1)) [1]) pNil))))
abbrev N_blown : List Str := [("dune" : Str), ("wind" : Str), ("word" : Str), ("slope" : Str)]
def T_blown (g_upside : FA) (g_cut_to : FA) : TSp :=
  (pSeq (pAsg (pVar 1) (hTup 2 (hCons (hName 2) (hCons (hName 3) hNil))))
    (pSeq (pIfS (pTest (pOp fEq (pVar 2) (pC (.str "cut"))))
    (pRet (pCallA 2 g_cut_to (pCons (pVar 0) (pCons (pVar 3) pNil))))
    pNext)
    (pRet (pCallA 1 g_upside (pCons (pFrz (pCallA 2 g_cut_to (pCons (pFrz (pCallA 1 g_upside (pCons (pVar 0) pNil))) (pCons (pVar 3) pNil)))) pNil)))))
abbrev N_cut_to : List Str := [("dune" : Str), ("slope" : Str), ("onward" : Str)]
def T_cut_to (g_mirrored : FA) (g_cut_onward : FA) : TSp :=
  (pSeq (pSet 2 (pCallA 2 g_cut_onward (pCons (pVar 0) (pCons (pVar 1) pNil))))
    (pRet (pCallA 1 g_mirrored (pCons (pFrz (pCallA 2 g_cut_onward (pCons (pFrz (pCallA 1 g_mirrored (pCons (pVar 2) pNil))) (pCons (pVar 1) pNil)))) pNil))))
abbrev N_cut_onward : List Str := [("dune" : Str), ("slope" : Str), ("heights" : Str), ("height" : Str)]
def T_cut_onward : TSp :=
  (pSeq (pSet 2 (pLstO (pCons (pIxO 0 (pC (.int 0))) pNil)))
    (pSeq (pFor (jSeq (pSl (pVar 0) (pPart (pC (.int 1))) pNoPart)) (hName 3)
    (pAppend 2 (pCB fMin2 (pCons (pVar 3) (pCons (pOp fAdd (pIxO 2 (pUn fNeg (pC (.int 1)))) (pVar 1)) pNil)))))
    (pRet (pMove 2))))
abbrev N__law_cell_at : List Str := [("_law_script" : Str), ("_law_k" : Str)]
def T__law_cell_at : TSp :=
  (pSeq (pIfS (pTest (pOp fLt (pVar 1) (pLenO 0)))
    (pRet (pVal (pIxO 0 (pVar 1))))
    pNext)
    (pRet (pVal (pC (.int 0)))))
abbrev N__law_box : List Str := [("_law_script" : Str), ("_law_k" : Str), ("_law_cell" : Str)]
def T__law_box (g__law_cell_at : FA) : TSp :=
  (pSeq (pSet 2 (pCallA 2 g__law_cell_at (pCons (pVar 0) (pCons (pVar 1) pNil))))
    (pRet (pLstO (pCons (pOp fMulI (pCB fAbs (pCons (pVar 2) pNil)) (pCB fInt1 (pCons (pOp fGe (pCB fAbs (pCons (pVar 2) pNil)) (pC (.int 1000000000000000000))) pNil))) (pCons (pOp fAdd (pOp fAdd (pOp fMod (pVar 2) (pC (.int 2305843009213693951))) (pOp fMulI (pC (.int 39373)) (pVar 1))) (pC (.int 17))) (pCons (pC (.int 0)) pNil))))))
abbrev N__law_take : List Str := [("_law_box_here" : Str), ("_law_size" : Str), ("_law_told" : Str), ("_law_once" : Str), ("_law_twice" : Str)]
def T__law_take (g__law_take : FB) : TSp :=
  (pSeq (pIfS (pTest (pOp fGt (pIxO 0 (pC (.int 0))) (pC (.int 0))))
    (pSeq (pSet 2 (pVal (pOp fMod (pIxO 0 (pC (.int 0))) (pVar 1))))
    (pSeq (pStore 0 (pC (.int 0)) (pOp fDiv (pIxO 0 (pC (.int 0))) (pVar 1)))
    (pRet (pMove 2))))
    pNext)
    (pSeq (pIfS (pTest (pOp fGt (pVar 1) (pC (.int 10000000))))
    (pRet (pVal (pOp fMod (pOp fAdd (pFrz (pCallB 0 2 g__law_take (pCons (pC (.int 10000000)) pNil))) (pOp fMulI (pC (.int 10000000)) (pFrz (pCallB 0 2 g__law_take (pCons (pOp fAdd (pOp fDiv (pOp fSub (pVar 1) (pC (.int 1))) (pC (.int 10000000))) (pC (.int 1))) pNil))))) (pVar 1))))
    pNext)
    (pSeq (pStore 0 (pC (.int 2)) (pOp fAdd (pIxO 0 (pC (.int 2))) (pC (.int 1))))
    (pSeq (pSet 3 (pVal (pOp fMod (pOp fMulI (pOp fAdd (pIxO 0 (pC (.int 1))) (pOp fMulI (pC (.int 48271)) (pIxO 0 (pC (.int 2))))) (pOp fAdd (pC (.int 39373)) (pIxO 0 (pC (.int 2))))) (pC (.int 2147483647)))))
    (pSeq (pSet 4 (pVal (pOp fMod (pOp fMulI (pOp fAdd (pOp fAdd (pVar 3) (pIxO 0 (pC (.int 2)))) (pOp fDiv (pIxO 0 (pC (.int 1))) (pC (.int 1000003)))) (pOp fAdd (pOp fMod (pVar 3) (pC (.int 40009))) (pC (.int 7)))) (pC (.int 2147483629)))))
    (pRet (pVal (pOp fMod (pOp fDiv (pOp fMod (pOp fAdd (pOp fMulI (pVar 4) (pC (.int 48271))) (pVar 3)) (pC (.int 2147483587))) (pC (.int 64))) (pVar 1)))))))))
abbrev N__law_of : List Str := [("_law_box_here" : Str), ("_law_some" : Str)]
def T__law_of (g__law_take : FB) : TSp :=
  (pRet (pVal (pIxO 1 (pFrz (pCallB 0 2 g__law_take (pCons (pLenO 1) pNil))))))
abbrev N__law_same : List Str := [("_law_told" : Str), ("_law_due" : Str), ("_law_here" : Str), ("_law_two" : Str)]
def T__law_same (g__law_same : FA) : TSp :=
  (pSeq (pIfS (pTest (pIsi2 D.isLst D.isTup (pVar 1)))
    (pSeq (pIfS (pOr (pTest (pOp fNe (pIsi D.isLst (pVar 0)) (pIsi D.isLst (pVar 1)))) (pTest (pOp fNe (pIsi D.isTup (pVar 0)) (pIsi D.isTup (pVar 1)))))
    (pRet (pVal (pC (.bl false))))
    pNext)
    (pRet (pVal (pAndV (pOp fEq (pLenO 0) (pLenO 1)) (pCB fAll (pCons (pLc (jZ2 (pCons (pVar 0) (pCons (pVar 1) pNil))) (hTup 2 (hCons (hName 2) (hCons (hName 3) hNil))) pYes (pFrz (pCallA 2 g__law_same (pCons (pVar 2) (pCons (pVar 3) pNil)))) [2, 3]) pNil))))))
    pNext)
    (pSeq (pIfS (pOr (pTest (pOp fIsN (pVar 1) (pC .non))) (pTest (pIsi2 D.isBl D.isStr (pVar 1))))
    (pRet (pVal (pAndV (pOp fEq (pVar 0) (pVar 1)) (pAndV (pOp fEq (pIsi D.isBl (pVar 0)) (pIsi D.isBl (pVar 1))) (pOp fEq (pOp fIsN (pVar 0) (pC .non)) (pOp fIsN (pVar 1) (pC .non)))))))
    pNext)
    (pRet (pVal (pAndV (pIsi D.isInt (pVar 0)) (pAndV (pNotV (pIsi D.isBl (pVar 0))) (pOp fEq (pVar 0) (pVar 1))))))))
abbrev N__law_slope : List Str := [("_law_box_here" : Str)]
def T__law_slope (g__law_take : FB) : TSp :=
  (pRet (pCallB 0 2 g__law_take (pCons (pOp fIx (pLst (pCons (pC (.int 4)) (pCons (pC (.int 9)) (pCons (pC (.int 40)) (pCons (pC (.int 1000000000)) pNil))))) (pFrz (pCallB 0 2 g__law_take (pCons (pC (.int 4)) pNil)))) pNil)))
end Pl
namespace Pl
open PySem PySem.Spec PyProof.Rows L2
def g_mirrored : FA := fun ds C => ∃ d ns, ds = [d] ∧ Sq d ns ∧ C (.val (.tup (dI ns.reverse)))
def g_upside : FA := fun ds C => ∃ d ns, ds = [d] ∧ Sq d ns ∧ ns.length ≤ 1000 ∧ C (.val (.tup (dI (ns.map fun x => -x))))
def g_cut_onward : FA := fun ds C => ∃ d ns s, ds = [d, .int s] ∧ Sq d ns ∧ ns ≠ [] ∧ ns.length ≤ 1000 ∧ ∀ a, C (.own a (dI (cutOn s ns)))
def g_cut_to : FA := fun ds C => ∃ d ns s, ds = [d, .int s] ∧ Sq d ns ∧ ns ≠ [] ∧ ns.length ≤ 1000 ∧ C (.val (.tup (dI (cutTo s ns))))
theorem rd_mirrored : ∀ ds C, ds.length = 1 → g_mirrored ds C → T_mirrored { nx := fun _ => C (.val .non), rt := fun c _ => C c } (startA N_mirrored ds) := by
  rintro ds C - ⟨d, ns, rfl, hd, hC⟩
  unfold dI at hC
  rw [List.map_reverse] at hC
  rcases hd with rfl | rfl <;> exact hC
theorem rd_upside : ∀ ds C, ds.length = 1 → g_upside ds C → T_upside { nx := fun _ => C (.val .non), rt := fun c _ => C c } (startA N_upside ds) := by
  rintro ds C - ⟨d, ns, rfl, hd, hl, hC⟩
  have key : lcW [1] (hName 1) pYes (pUn fNeg (pVar 1)) (fun acc ρ2 => C (.val (.tup acc))) (dI ns) [] [some (.val d), none] := by
    refine lcW_ints (h := fun x => .int (-x)) (fun x _ K hK => hK _ rfl) hl ?_
    unfold dI at hC
    rw [List.map_map] at hC
    exact hC
  rcases hd with rfl | rfl <;> exact key
theorem rd_cut_onward : ∀ ds C, ds.length = 2 → g_cut_onward ds C → T_cut_onward { nx := fun _ => C (.val .non), rt := fun c _ => C c } (startA N_cut_onward ds) := by
  rintro ds C - ⟨d, ns, s, rfl, hd, hne, hl, hC⟩
  cases ns with
  | nil => exact absurd rfl hne
  | cons x r =>
    have key : ∀ (dd : D) (a : Addr) (w : Option Cell) (P : PEnds), (∀ ρ, (∃ w, ρ = [some (.val dd), some (.val (.int s)), some (.own a (dI (cutOn s (x :: r)))), w]) → P.nx ρ) → forW (hName 3) (pAppend 2 (pCB fMin2 (pCons (pVar 3) (pCons (pOp fAdd (pIxO 2 (pUn fNeg (pC (.int 1)))) (pVar 1)) pNil)))) P (dI r) [some (.val dd), some (.val (.int s)), some (.own a [.int x]), w] := by
      intro dd a w P hP
      refine for_inv (fun ds ρ => ∃ (done : List Int) (p : Int) (rest : List Int) (w : Option Cell), ds = dI rest ∧ ρ = [some (.val dd), some (.val (.int s)), some (.own a (dI (done ++ [p]))), w] ∧ cutOn s (x :: r) = done ++ p :: cutFrom s p rest) (fun d rst ρ K hK hI => ?_) (fun ρ hI => ?_) (dI r) _ ⟨[], x, r, w, rfl, rfl, rfl⟩
      · obtain ⟨done, p, rest, w, e1, rfl, e3⟩ := hI
        cases rest with
        | nil => cases e1
        | cons h rest =>
          cases e1
          have hlen : (dI (done ++ [p])).length ≤ 1000 := by
            have := congrArg List.length e3
            rw [cutOn_len] at this
            simp at this ⊢
            simp at hl
            omega
          refine ⟨dI (done ++ [p]), -1, .int p, rfl, rfl, ?_, dI (done ++ [p]), rfl, small1000 hlen, ?_⟩
          · rw [show dI (done ++ [p]) = dI done ++ [.int p] from by simp]
            exact atI_last _ _
          · refine hK _ ⟨done ++ [p], min h (p + s), rest, some (.val (.int h)), rfl, ?_, ?_⟩
            · rw [show dI (done ++ [p] ++ [min h (p + s)]) = dI (done ++ [p]) ++ [.int (min h (p + s))] from by simp]
              rfl
            · rw [e3]; simp [cutFrom]
      · obtain ⟨done, p, rest, w, e1, rfl, e3⟩ := hI
        cases rest with
        | cons h rest => cases e1
        | nil =>
          refine hP _ ⟨w, ?_⟩
          rw [e3]; rfl
    have hz : (1 : Nat) ≤ sizeLine := by decide
    rcases hd with rfl | rfl
    · refine ⟨.int x, atI_zero _ _, hz, fun a => ?_⟩
      show forW _ _ _ (cutD (dI (x :: r)) (some 1) none) _
      rw [cutD_from1]
      refine key _ a _ _ fun ρ ⟨w, e⟩ => ?_
      subst e
      exact hC a
    · refine ⟨.int x, atI_zero _ _, hz, fun a => ?_⟩
      show forW _ _ _ (cutD (dI (x :: r)) (some 1) none) _
      rw [cutD_from1]
      refine key _ a _ _ fun ρ ⟨w, e⟩ => ?_
      subst e
      exact hC a
theorem rev_ne {l : List Int} (h : l ≠ []) : l.reverse ≠ [] := by simpa using h
theorem ne_len {l m : List Int} (h : l.length = m.length) (hm : m ≠ []) : l ≠ [] := by
  intro e; subst e; cases m with
  | nil => exact hm rfl
  | cons _ _ => cases h
theorem rd_cut_to : ∀ ds C, ds.length = 2 → g_cut_to ds C → T_cut_to g_mirrored g_cut_onward { nx := fun _ => C (.val .non), rt := fun c _ => C c } (startA N_cut_to ds) := by
  rintro ds C - ⟨d, ns, s, rfl, hd, hne, hl, hC⟩
  refine ⟨rfl, d, ns, s, rfl, hd, hne, hl, fun a => ?_⟩
  refine ⟨rfl, _, cutOn s ns, rfl, .inr rfl, rfl, _, (cutOn s ns).reverse, s, rfl, .inl rfl, rev_ne (ne_len (cutOn_len s ns) hne), by rw [List.length_reverse, cutOn_len]; exact hl, fun b => ?_⟩
  exact ⟨rfl, _, _, rfl, .inr rfl, hC⟩
def wordS : Bool → Str
  | true => "cut"
  | false => "fill"
def windD (cut : Bool) (s : Int) : D := .tup [.str (wordS cut), .int s]
def blownL (cut : Bool) (s : Int) (ns : List Int) : List Int := if cut = true then cutTo s ns else fillTo s ns
def g_blown : FA := fun ds C => ∃ d ns cut s, ds = [d, windD cut s] ∧ Sq d ns ∧ ns ≠ [] ∧ ns.length ≤ 1000 ∧ C (.val (.tup (dI (blownL cut s ns))))
theorem sh_cut : (D.str "cut").sh := by unfold D.sh; decide +kernel
theorem sh_fill : (D.str "fill").sh := by unfold D.sh; decide +kernel
theorem sh_int (i : Int) : (D.int i).sh := by unfold D.sh toPy; rfl
theorem sh_bl (i : Bool) : (D.bl i).sh := by unfold D.sh toPy; rfl
theorem canLay_ints : ∀ ns : List Int, PyData.canLayAll0 (toPys (dI ns)) = true
  | [] => rfl
  | n :: ns => by
    show (PyData.canLay0 (toPy (.int n)) && PyData.canLayAll0 (toPys (dI ns))) = true
    rw [canLay_ints ns]; rfl
theorem depth_dI : ∀ ns : List Int, PyData.depthAll (toPys (dI ns)) = 0
  | [] => rfl
  | n :: ns => by
    show max (PyData.depth (toPy (.int n))) (PyData.depthAll (toPys (dI ns))) = 0
    rw [depth_dI ns]; rfl
theorem sh_lstI (ns : List Int) : (D.lst (dI ns)).sh := by
  show (PyData.canLayAll0 (toPys (dI ns)) && decide (PyData.depthAll (toPys (dI ns)) + 1 ≤ 64)) = true
  rw [canLay_ints, depth_dI]; rfl
theorem eqvAll_dI : ∀ a b : List Int, PyData.eqvAll (toPys (dI a)) (toPys (dI b)) = decide (a = b)
  | [], [] => rfl
  | [], _ :: _ => rfl
  | _ :: _, [] => rfl
  | x :: a, y :: b => by
    show (x == y && PyData.eqvAll (toPys (dI a)) (toPys (dI b))) = _
    rw [eqvAll_dI a b]
    by_cases h1 : x = y
    · subst h1; simp
    · have : (x == y) = false := by simpa using h1
      rw [this]; simp [h1]
theorem eqv_lstI (a b : List Int) : (D.lst (dI a)).eqv (.lst (dI b)) = decide (a = b) := eqvAll_dI a b
theorem eqv_bl (a b : Bool) : (D.bl a).eqv (.bl b) = (a == b) := rfl
theorem eqv_int (a b : Int) : (D.int a).eqv (.int b) = (a == b) := rfl
theorem rd_blown : ∀ ds C, ds.length = 2 → g_blown ds C → T_blown g_upside g_cut_to { nx := fun _ => C (.val .non), rt := fun c _ => C c } (startA N_blown ds) := by
  rintro ds C - ⟨d, ns, cut, s, rfl, hd, hne, hl, hC⟩
  cases cut with
  | true =>
    refine ⟨rfl, rfl, sh_cut, sh_cut, ifT (by decide +kernel) ?_⟩
    exact ⟨rfl, d, ns, s, rfl, hd, hne, hl, hC⟩
  | false =>
    refine ⟨rfl, rfl, sh_fill, sh_cut, ifF (by decide +kernel) ?_⟩
    refine ⟨rfl, d, ns, rfl, hd, hl, rfl, _, _, s, rfl, .inl rfl, by simpa using hne, by simpa using hl, rfl, _, _, rfl, .inl rfl, by rw [cutTo_len]; simpa using hl, ?_⟩
    exact hC
def g__law_cell_at : FA := fun ds C => ∃ ns k, ds = [.scr ns, .int k] ∧ 0 ≤ k ∧ ∀ n, C (.val (.int n))
theorem rd__law_cell_at : ∀ ds C, ds.length = 2 → g__law_cell_at ds C → T__law_cell_at { nx := fun _ => C (.val .non), rt := fun c _ => C c } (startA N__law_cell_at ds) := by
  rintro ds C - ⟨ns, k, rfl, hk, hC⟩
  refine ifB (fun h => ?_) (fun h => ?_)
  · have h := dT h
    obtain ⟨j, rfl⟩ := Int.eq_ofNat_of_zero_le hk
    have hj : j < ns.length := by simpa using h
    exact ⟨ns[j], atI_nat (List.getElem?_eq_getElem hj), hC _⟩
  · exact hC _
def Bx (n : Nat) (xs : List D) : Prop := ∃ a b c : Int, xs = [.int a, .int b, .int c] ∧ 0 ≤ a ∧ 0 ≤ b ∧ b ≤ 2 ^ 62 ∧ 0 ≤ c ∧ c ≤ n
theorem Bx.mono {n m : Nat} {xs : List D} (h : Bx n xs) (hm : n ≤ m) : Bx m xs := by
  obtain ⟨a, b, c, h1, h2, h3, h4, h5, h6⟩ := h
  exact ⟨a, b, c, h1, h2, h3, h4, h5, by omega⟩
def g__law_box : FA := fun ds C => ∃ ns k, ds = [.scr ns, .int k] ∧ 0 ≤ k ∧ k ≤ 1000000 ∧ ∀ a xs, Bx 0 xs → C (.own a xs)
theorem iabs_nonneg (i : Int) : 0 ≤ iabs i := by unfold iabs; split <;> omega
theorem rd__law_box : ∀ ds C, ds.length = 2 → g__law_box ds C → T__law_box g__law_cell_at { nx := fun _ => C (.val .non), rt := fun c _ => C c } (startA N__law_box ds) := by
  rintro ds C - ⟨ns, k, rfl, hk, hk2, hC⟩
  refine ⟨rfl, ns, k, rfl, hk, fun n => ?_⟩
  refine ⟨.inr ?_, (by show (0 : Int) < 2305843009213693951; decide), .inl (by constructor <;> decide), by show (3 : Nat) ≤ sizeLine; decide, fun a => hC a _ ⟨_, _, _, rfl, ?_, ?_, ?_, Int.le_refl _, Int.le_refl _⟩⟩
  · constructor <;> split <;> decide
  · refine Int.mul_nonneg (iabs_nonneg n) ?_
    split <;> decide
  · have := Int.emod_nonneg n (b := 2305843009213693951) (by decide)
    omega
  · have := Int.emod_lt_of_pos n (b := 2305843009213693951) (by decide)
    omega
def g_take (top : Int) : FB := fun xs ds C => ∃ n size, n ≤ 1000000000000 ∧ Bx n xs ∧ ds = [.int size] ∧ 0 < size ∧ size ≤ top ∧ ∀ r ys, 0 ≤ r → r < size → Bx (n + 2) ys → C (.val (.int r)) ys
def g_none : FB := fun _ _ _ => False
def g_take0 : FB := fun xs ds C => ∃ n size, n ≤ 1000000000001 ∧ Bx n xs ∧ ds = [.int size] ∧ 0 < size ∧ size ≤ 10000000 ∧ ∀ r ys, 0 ≤ r → r < size → Bx (n + 1) ys → C (.val (.int r)) ys
theorem rd_take0g (gg : FB) : ∀ a xs ds C, ds.length + 1 = 2 → g_take0 xs ds C → T__law_take gg { nx := fun ρ => ∃ ys, ρ[0]? = some (some (.own a ys)) ∧ C (.val .non) ys, rt := fun c ρ => ∃ ys, ρ[0]? = some (some (.own a ys)) ∧ C c ys } (startB N__law_take a xs ds) := by
  rintro a xs ds C - ⟨n, size, hn, ⟨b0, b1, b2, rfl, h0, h1, h1', h2, h2'⟩, rfl, hs0, hs, hC⟩
  refine ⟨_, _, _, rfl, rfl, rfl, ifB (fun h => ?_) (fun h => ?_)⟩
  · have h := dT h
    refine ⟨_, _, _, rfl, rfl, rfl, hs0, _, _, _, rfl, rfl, rfl, ⟨hs0, by omega⟩, _, _, _, rfl, rfl, rfl, _, rfl, hC _ _ (Int.emod_nonneg _ (by omega)) (Int.emod_lt_of_pos _ hs0) ⟨_, _, _, rfl, Int.ediv_nonneg h0 (by omega), h1, h1', h2, by omega⟩⟩
  · refine ifF (decide_eq_false (by omega)) ?_
    refine ⟨_, _, _, rfl, rfl, rfl, _, _, _, rfl, rfl, rfl, ?_⟩
    refine ⟨_, _, _, rfl, rfl, rfl, _, _, _, rfl, rfl, rfl, .inl ⟨by decide, by decide⟩, _, _, _, rfl, rfl, rfl, .inr ⟨?_, ?_⟩, (by show (0 : Int) < 2147483647; decide), ?_⟩
    · show (-(2 ^ 64) : Int) < 39373 + (b2 + 1); omega
    · show (39373 + (b2 + 1) : Int) < 2 ^ 64; omega
    refine ⟨_, _, _, rfl, rfl, rfl, _, _, _, rfl, rfl, rfl, ⟨by decide, by decide⟩, (by show (0 : Int) < 40009; decide), .inr ⟨?_, ?_⟩, (by show (0 : Int) < 2147483629; decide), ?_⟩
    · have := Int.emod_nonneg ((b1 + 48271 * (b2 + 1)) * (39373 + (b2 + 1)) % 2147483647) (b := 40009) (by decide)
      show (-(2 ^ 64) : Int) < (b1 + 48271 * (b2 + 1)) * (39373 + (b2 + 1)) % 2147483647 % 40009 + 7
      omega
    · have := Int.emod_lt_of_pos ((b1 + 48271 * (b2 + 1)) * (39373 + (b2 + 1)) % 2147483647) (b := 40009) (by decide)
      show (b1 + 48271 * (b2 + 1)) * (39373 + (b2 + 1)) % 2147483647 % 40009 + 7 < (2 ^ 64 : Int)
      omega
    refine ⟨.inr ⟨by decide, by decide⟩, (by show (0 : Int) < 2147483587; decide), ⟨by decide, by decide⟩, hs0, _, rfl, hC _ _ (Int.emod_nonneg _ (by omega)) (Int.emod_lt_of_pos _ hs0) ⟨_, _, _, rfl, h0, h1, h1', by omega, ?_⟩⟩
    show b2 + 1 ≤ ((n + 1 : Nat) : Int)
    omega
theorem rd_take0 : ∀ a xs ds C, ds.length + 1 = 2 → g_take0 xs ds C → T__law_take g_none { nx := fun ρ => ∃ ys, ρ[0]? = some (some (.own a ys)) ∧ C (.val .non) ys, rt := fun c ρ => ∃ ys, ρ[0]? = some (some (.own a ys)) ∧ C c ys } (startB N__law_take a xs ds) := rd_take0g g_none
theorem rd_take : ∀ a xs ds C, ds.length + 1 = 2 → g_take 100000000000000 xs ds C → T__law_take g_take0 { nx := fun ρ => ∃ ys, ρ[0]? = some (some (.own a ys)) ∧ C (.val .non) ys, rt := fun c ρ => ∃ ys, ρ[0]? = some (some (.own a ys)) ∧ C c ys } (startB N__law_take a xs ds) := by
  rintro a xs ds C - ⟨n, size, hn, hB, rfl, hs0, hs, hC⟩
  have hB' := hB
  obtain ⟨b0, b1, b2, rfl, h0, h1, h1', h2, h2'⟩ := hB
  by_cases hbig : size ≤ 10000000
  · exact rd_take0g g_take0 a _ _ C rfl ⟨n, size, by omega, hB', rfl, hs0, hbig, fun r ys q1 q2 q3 => hC r ys q1 q2 (q3.mono (by omega))⟩
  · refine ⟨_, _, _, rfl, rfl, rfl, ifB (fun h => ?_) (fun h => ?_)⟩
    · have h := dT h
      refine ⟨_, _, _, rfl, rfl, rfl, hs0, _, _, _, rfl, rfl, rfl, ⟨hs0, by omega⟩, _, _, _, rfl, rfl, rfl, _, rfl, hC _ _ (Int.emod_nonneg _ (by omega)) (Int.emod_lt_of_pos _ hs0) ⟨_, _, _, rfl, Int.ediv_nonneg h0 (by omega), h1, h1', h2, by omega⟩⟩
    · refine ifT (decide_eq_true (by omega)) ?_
      refine ⟨_, rfl, rfl, n, 10000000, by omega, hB', rfl, by decide, by decide, fun r1 ys1 q1 q2 q3 => ?_⟩
      have e1 : 0 ≤ (size - 1) / 10000000 := Int.ediv_nonneg (by omega) (by decide)
      have e2 : (size - 1) / 10000000 < 10000000 := Int.ediv_lt_of_lt_mul (by decide) (by omega)
      refine ⟨⟨by decide, by decide⟩, _, rfl, rfl, n + 1, (size - 1) / 10000000 + 1, by omega, q3, rfl, by omega, by omega, fun r2 ys2 p1 p2 p3 => ?_⟩
      refine ⟨.inl ⟨by decide, by decide⟩, hs0, _, rfl, hC _ _ (Int.emod_nonneg _ (by omega)) (Int.emod_lt_of_pos _ hs0) p3⟩
def g__law_of : FB := fun xs ds C => ∃ n d ys, n ≤ 100000000000 ∧ Bx n xs ∧ ds = [d] ∧ (d = .lst ys ∨ d = .tup ys) ∧ 0 < ys.length ∧ ys.length ≤ 1000 ∧ ∀ y zs, y ∈ ys → Bx (n + 2) zs → C (.val y) zs
theorem mem_of_atI {α : Type} {xs : List α} {i : Int} {v : α} (h : atI xs i = some v) : v ∈ xs := by
  obtain ⟨j, _, h2, _⟩ := atI_get h
  exact List.mem_of_getElem? h2
theorem atI_below {α : Type} {xs : List α} {i : Int} (h0 : 0 ≤ i) (h1 : i < xs.length) : ∃ v, atI xs i = some v := by
  obtain ⟨j, rfl⟩ := Int.eq_ofNat_of_zero_le h0
  exact ⟨xs[j]'(by omega), atI_nat (List.getElem?_eq_getElem (by omega))⟩
theorem rd__law_of : ∀ a xs ds C, ds.length + 1 = 2 → g__law_of xs ds C → T__law_of (g_take 100000000000000) { nx := fun ρ => ∃ ys, ρ[0]? = some (some (.own a ys)) ∧ C (.val .non) ys, rt := fun c ρ => ∃ ys, ρ[0]? = some (some (.own a ys)) ∧ C c ys } (startB N__law_of a xs ds) := by
  rintro a xs ds C - ⟨n, d, ys, hn, hB, rfl, hd, hl0, hl, hC⟩
  rcases hd with rfl | rfl
  · refine ⟨xs, rfl, rfl, n, _, by omega, hB, rfl, by omega, by omega, fun r zs q1 q2 q3 => ?_⟩
    obtain ⟨v, hv⟩ := atI_below q1 q2
    exact ⟨v, hv, _, rfl, hC v zs (mem_of_atI hv) q3⟩
  · refine ⟨xs, rfl, rfl, n, _, by omega, hB, rfl, by omega, by omega, fun r zs q1 q2 q3 => ?_⟩
    obtain ⟨v, hv⟩ := atI_below q1 q2
    exact ⟨v, hv, _, rfl, hC v zs (mem_of_atI hv) q3⟩
end Pl
namespace Pl
open PySem PySem.Spec PyProof.Rows L2
def g_law : FA := fun ds C => ∃ ns, ds = [.scr ns] ∧ ns.length ≤ 63 ∧ C (.val (.bl true))
end Pl
namespace Pl
open PySem PySem.Spec PyProof.Rows L2
theorem eqv_str (z : Str) : (D.str z).eqv (.str z) = true := by
  show (z == z) = true
  simp
theorem zip_same {α : Type} {f : α → α → D} : ∀ (xs : List α), List.zipWith f xs xs = xs.map fun x => f x x
  | [] => rfl
  | x :: xs => by simp [zip_same xs]
theorem zipD_same (xs : List D) : zipD xs xs = xs.map fun x => .tup [x, x] := zip_same xs
theorem lcW_same {vs : List Nat} {g : TGp} {te : TEp} {Q : List D → Ro → Prop} {ρ : Ro} {xs : List D} (hs : ∀ x ∈ xs, ElemOk vs g te ρ (.tup [x, x]) (.bl true)) (hl : xs.length ≤ 1000) (hQ : Q (xs.map fun _ => .bl true) ρ) : lcW vs g pYes te Q (zipD xs xs) [] ρ := by
  rw [zipD_same]
  refine lcW_map (f := fun _ => .bl true) _ [] (fun d hd => ?_) (by simpa using hl) ?_
  · obtain ⟨x, hx, rfl⟩ := List.mem_map.mp hd
    exact hs x hx
  · rw [List.nil_append, List.map_map]
    exact hQ
theorem all_true {α : Type} (xs : List α) : ((xs.map fun _ => true).all id) = true := by
  induction xs with
  | nil => rfl
  | cons x xs ih => rw [List.map_cons, List.all_cons, ih]; rfl
theorem map_true {α : Type} (xs : List α) : (xs.map fun _ => D.bl true) = (xs.map fun _ => true).map D.bl := by rw [List.map_map]; rfl
theorem rd_same (n : Nat) : ∀ ds C, ds.length = 2 → gS (n + 1) ds C → T__law_same (gS n) { nx := fun _ => C (.val .non), rt := fun c _ => C c } (startA N__law_same ds) := by
  rintro ds C - ⟨d, rfl, ok, hC⟩
  cases d with
  | non =>
    have h : D.non.sh := by unfold D.sh toPy; rfl
    exact ⟨h, h, sh_bl _, sh_bl _, sh_bl _, sh_bl _, hC⟩
  | bl b =>
    refine ⟨sh_bl _, sh_bl _, ?_⟩
    exact ifT (by rw [eqv_bl]; simp) ⟨sh_bl _, sh_bl _, sh_bl _, sh_bl _, hC⟩
  | int i =>
    refine ⟨sh_int _, sh_int _, ?_⟩
    show C (.val (.bl ((D.int i).eqv (.int i))))
    rw [show (D.int i).eqv (.int i) = true by rw [eqv_int]; simp]
    exact hC
  | str z =>
    have hz : (D.str z).sh := by cases n <;> exact ok
    refine ⟨hz, hz, ?_⟩
    exact ifT (eqv_str z) ⟨sh_bl _, sh_bl _, sh_bl _, sh_bl _, hC⟩
  | scr ns => cases n <;> exact ok.elim
  | adr a => cases n <;> exact ok.elim
  | exc _ _ => cases n <;> exact ok.elim
  | lst xs =>
    cases n with
    | zero => exact ok.elim
    | succ n =>
      obtain ⟨hl, hx⟩ := ok
      refine ⟨sh_bl _, sh_bl _, sh_bl _, sh_bl _, sh_int _, sh_int _, ifT (by rw [eqv_int]; simp) ?_⟩
      refine lcW_same (fun x hx' K hK => ⟨rfl, rfl, rfl, x, rfl, hx x hx', hK _ rfl⟩) hl ⟨_, map_true xs, ?_⟩
      rw [all_true]; exact hC
  | tup xs =>
    cases n with
    | zero => exact ok.elim
    | succ n =>
      obtain ⟨hl, hx⟩ := ok
      refine ⟨sh_bl _, sh_bl _, sh_bl _, sh_bl _, sh_int _, sh_int _, ifT (by rw [eqv_int]; simp) ?_⟩
      refine lcW_same (fun x hx' K hK => ⟨rfl, rfl, rfl, x, rfl, hx x hx', hK _ rfl⟩) hl ⟨_, map_true xs, ?_⟩
      rw [all_true]; exact hC
theorem atI_ints' {ns : List Int} {j : Nat} (h : j < ns.length) : atI (dI ns) (j : Int) = some (.int (ns.getD j 0)) := by
  refine atI_nat ?_
  rw [List.getElem?_map, List.getElem?_eq_getElem h, List.getD_eq_getElem?_getD, List.getElem?_eq_getElem h]; rfl
theorem rangeD_map (n : Nat) : rangeD 0 n = dI ((List.range n).map fun (i : Nat) => (i : Int)) := by
  unfold rangeD dI
  rw [List.map_map]
  apply List.map_congr_left
  intro i _
  show D.int (0 + (i : Int)) = D.int (i : Int)
  rw [Int.zero_add]
theorem mem_rng {n : Nat} {x : Int} (h : x ∈ (List.range n).map fun (i : Nat) => (i : Int)) : ∃ j : Nat, j < n ∧ x = j := by
  obtain ⟨j, hj, e⟩ := List.mem_map.mp h
  exact ⟨j, List.mem_range.mp hj, e.symm⟩
end Pl
namespace Pl
open PySem PySem.Spec PyProof.Rows L2
abbrev Wd := Bool × Int
def windsD (ws : List Wd) : List D := ws.map fun w => windD w.1 w.2
def tD (l : List Int) : D := .tup (dI l)
def blW (l : List Int) (w : Wd) : List Int := blownL w.1 w.2 l
def behindL (l : List Int) (ws : List Wd) : List Int := ws.foldl blW l
def Am (d : D) (ws : List Wd) : Prop := d = .lst (windsD ws) ∨ d = .tup (windsD ws)
theorem blW_len (l : List Int) (w : Wd) : (blW l w).length = l.length := by
  obtain ⟨c, s⟩ := w
  cases c with
  | true => exact cutTo_len s l
  | false => exact fillTo_len s l
theorem windsD_len (ws : List Wd) : (windsD ws).length = ws.length := by simp [windsD]
def g__law_slope : FB := fun xs ds C => ∃ n, n ≤ 100000000000 ∧ Bx n xs ∧ ds = [] ∧ ∀ s zs, 0 ≤ s → s < 1000000000 → Bx (n + 4) zs → C (.val (.int s)) zs
theorem rd__law_slope : ∀ a xs ds C, ds.length + 1 = 1 → g__law_slope xs ds C → T__law_slope (g_take 100000000000000) { nx := fun ρ => ∃ ys, ρ[0]? = some (some (.own a ys)) ∧ C (.val .non) ys, rt := fun c ρ => ∃ ys, ρ[0]? = some (some (.own a ys)) ∧ C c ys } (startB N__law_slope a xs ds) := by
  rintro a xs ds C - ⟨n, hn, hB, rfl, hC⟩
  refine ⟨by show (4 : Nat) ≤ sizeLine; decide, xs, rfl, rfl, n, 4, by omega, hB, rfl, by decide, by decide, fun r ys q1 q2 q3 => ?_⟩
  obtain ⟨v, hv⟩ := atI_below (xs := [D.int 4, .int 9, .int 40, .int 1000000000]) q1 q2
  refine ⟨v, hv, ?_⟩
  obtain ⟨wide, rfl, hw0, hw⟩ : ∃ wide, v = .int wide ∧ 0 < wide ∧ wide ≤ 1000000000 := by
    have := mem_of_atI hv
    simp at this
    rcases this with e | e | e | e <;> subst e <;> exact ⟨_, rfl, by decide, by decide⟩
  exact ⟨ys, rfl, rfl, n + 2, wide, by omega, q3, rfl, hw0, by omega, fun s zs a1 a2 a3 => ⟨zs, rfl, hC s zs a1 (by omega) a3⟩⟩
end Pl
namespace Pl
open PySem PySem.Spec PyProof.Rows L2
abbrev vI (i : Int) : Option Cell := some (.val (.int i))
abbrev vT (l : List Int) : Option Cell := some (.val (.tup (dI l)))
theorem blown_gentle {c : Bool} {s : Int} (hs : 0 ≤ s) (l : List Int) : Gentle s (blownL c s l) := by
  cases c with
  | true => exact cutTo_gentle hs l
  | false => exact fillTo_gentle hs l
theorem blown_idle {c : Bool} {s : Int} (hs : 0 ≤ s) {l : List Int} : blownL c s l = l ↔ Gentle s l := by
  cases c with
  | true => exact cutTo_idle hs
  | false => exact fillTo_idle hs
end Pl
namespace Pl
open PySem PySem.Spec PyProof.Rows L2
theorem lcW_mapS {α : Type} {vs : List Nat} {g : TGp} {te : TEp} {Q : List D → Ro → Prop} {d f : α → D} {ρ : Ro} : ∀ (xs : List α) (acc : List D), (∀ x ∈ xs, ElemOk vs g te ρ (d x) (f x)) → acc.length + xs.length ≤ sizeLine → Q (acc ++ xs.map f) ρ → lcW vs g pYes te Q (xs.map d) acc ρ
  | [], acc, _, _, hQ => by
    have hQ : Q (acc ++ []) ρ := hQ
    rw [List.append_nil] at hQ
    exact hQ
  | x :: xs, acc, h, hl, hQ => by
    have hl' : acc.length + (xs.length + 1) ≤ sizeLine := hl
    refine h x (by simp) _ fun ρ4 e => ⟨by omega, ?_⟩
    rw [e]
    refine lcW_mapS xs _ (fun y hy => h y (by simp [hy])) (by rw [List.length_append]; show acc.length + 1 + xs.length ≤ sizeLine; omega) ?_
    rw [List.append_assoc]
    exact hQ
end Pl
namespace Pl
open PySem PySem.Spec PyProof.Rows L2
section
variable {α β : Type} {vs : List Nat} {g : TGp} {tt : TTp} {te : TEp} {tb : TSp} {P : PEnds} {Q : List D → Ro → Prop} {ρ : Ro}
theorem lc_mp {ds : List D} (xs : List α) (d f : α → D) (e : ds = xs.map d) (h : ∀ x ∈ xs, ElemOk vs g te ρ (d x) (f x)) (hl : xs.length ≤ 1000) (hQ : Q (xs.map f) ρ) : lcW vs g pYes te Q ds [] ρ := by
  subst e
  exact lcW_mapS xs [] h (by rw [List.length_nil, Nat.zero_add]; exact sl1000 hl) hQ
def ElemIf (vs : List Nat) (g : TGp) (tt : TTp) (te : TEp) (ρ : Ro) (d : D) (p : Bool) (y : D) : Prop := ∀ (K : Bool → Ro → Prop), (∀ ρ3, restore ρ ρ3 vs = ρ → (p = true → ∀ K2 : D → Ro → Prop, (∀ ρ4, restore ρ ρ4 vs = ρ → K2 y ρ4) → te ρ3 K2) → K p ρ3) → g d (wipeP ρ vs) fun ρ2 => tt ρ2 K
theorem lcW_fl : ∀ (xs : List α) (d f : α → D) (p : α → Bool) (acc : List D), (∀ x ∈ xs, ElemIf vs g tt te ρ (d x) (p x) (f x)) → acc.length + xs.length ≤ sizeLine → Q (acc ++ (xs.filter p).map f) ρ → lcW vs g tt te Q (xs.map d) acc ρ
  | [], d, f, p, acc, _, _, hQ => by
    have hQ : Q (acc ++ []) ρ := hQ
    rw [List.append_nil] at hQ
    exact hQ
  | x :: xs, d, f, p, acc, h, hl, hQ => by
    have hl' : acc.length + (xs.length + 1) ≤ sizeLine := hl
    refine h x (by simp) _ fun ρ3 e3 ht => ?_
    cases hp : p x with
    | true =>
      refine ite_ti (ht hp _ fun ρ4 e4 => ⟨by omega, ?_⟩)
      rw [e4]
      refine lcW_fl xs d f p _ (fun y hy => h y (by simp [hy])) (by rw [List.length_append]; show acc.length + 1 + xs.length ≤ sizeLine; omega) ?_
      rw [List.filter_cons_of_pos hp, List.map_cons] at hQ
      rw [List.append_assoc]
      exact hQ
    | false =>
      refine ite_fi ?_
      rw [e3]
      refine lcW_fl xs d f p _ (fun y hy => h y (by simp [hy])) (by omega) ?_
      rw [List.filter_cons_of_neg (by rw [hp]; decide)] at hQ
      exact hQ
theorem lc_fl {ds : List D} (xs : List α) (d f : α → D) (p : α → Bool) (e : ds = xs.map d) (h : ∀ x ∈ xs, ElemIf vs g tt te ρ (d x) (p x) (f x)) (hl : xs.length ≤ 1000) (hQ : Q ((xs.filter p).map f) ρ) : lcW vs g tt te Q ds [] ρ := by
  subst e
  exact lcW_fl xs d f p [] h (by rw [List.length_nil, Nat.zero_add]; exact sl1000 hl) hQ
theorem rangeD_nat (n : Nat) : rangeD 0 n = (List.range n).map fun (j : Nat) => D.int (j : Int) := by
  unfold rangeD
  apply List.map_congr_left
  intro j _
  rw [Int.zero_add]
theorem lc_rg {m : Nat} (n : Nat) (f : Nat → D) (e : m = n) (h : ∀ j, j < n → ElemOk vs g te ρ (.int (j : Int)) (f j)) (hl : n ≤ 1000) (hQ : Q ((List.range n).map f) ρ) : lcW vs g pYes te Q (rangeD 0 m) [] ρ :=
  lc_mp (List.range n) (fun (j : Nat) => .int (j : Int)) f (by rw [e, rangeD_nat]) (fun j hj => h j (List.mem_range.mp hj)) (by simpa using hl) hQ
theorem enumD_map (d : α → D) : ∀ (xs : List α) (k : Nat), enumD k (xs.map d) = (xs.zipIdx k).map fun p => .tup [.int ((p.2 : Nat) : Int), d p.1]
  | [], _ => rfl
  | x :: xs, k => by
    show D.tup [.int (k : Int), d x] :: enumD (k + 1) (xs.map d) = _
    rw [enumD_map d xs]; rfl
theorem lc_enf {ds : List D} (xs : List α) (d : α → D) (f : Nat → α → D) (p : Nat → α → Bool) (e : ds = xs.map d) (h : ∀ (k : Nat) (x : α), xs[k]? = some x → ElemIf vs g tt te ρ (.tup [.int (k : Int), d x]) (p k x) (f k x)) (hl : xs.length ≤ 1000) (hQ : Q (((xs.zipIdx).filter fun z => p z.2 z.1).map fun z => f z.2 z.1) ρ) : lcW vs g tt te Q (enumD 0 ds) [] ρ := by
  subst e
  refine lc_fl xs.zipIdx (fun p => .tup [.int ((p.2 : Nat) : Int), d p.1]) (fun p => f p.2 p.1) (fun z => p z.2 z.1) (enumD_map d xs 0) (fun p hp => ?_) (by simpa using hl) hQ
  obtain ⟨x, k⟩ := p
  exact h k x (List.mem_zipIdx_iff_getElem?.mp hp)
theorem forW_mp : ∀ (xs : List α) (d : α → D) (ρ : Ro) (I : List α → Ro → Prop), I xs ρ → (∀ (x : α) (r : List α) (ρ : Ro) (K : Ro → Prop), I (x :: r) ρ → (∀ ρ', I r ρ' → K ρ') → g (d x) ρ fun ρ1 => tb { P with nx := K, ct := K, bk := P.nx } ρ1) → (∀ ρ, I [] ρ → P.nx ρ) → forW g tb P (xs.map d) ρ
  | [], d, ρ, I, h, _, he => he ρ h
  | x :: xs, d, ρ, I, h, hs, he => hs x xs ρ _ h fun ρ' h' => forW_mp xs d ρ' I h' hs he
theorem fr_mp {ds : List D} (xs : List α) (d : α → D) (I : List α → Ro → Prop) (e : ds = xs.map d) (h0 : I xs ρ) (hs : ∀ (x : α) (r : List α) (ρ : Ro) (K : Ro → Prop), I (x :: r) ρ → (∀ ρ', I r ρ' → K ρ') → g (d x) ρ fun ρ1 => tb { P with nx := K, ct := K, bk := P.nx } ρ1) (he : ∀ ρ, I [] ρ → P.nx ρ) : forW g tb P ds ρ := by
  subst e
  exact forW_mp xs d ρ I h0 hs he
theorem forW_rg (I : Nat → Ro → Prop) (n : Nat) (hs : ∀ (j : Nat) (ρ : Ro) (K : Ro → Prop), j < n → I j ρ → (∀ ρ', I (j + 1) ρ' → K ρ') → g (.int (j : Int)) ρ fun ρ1 => tb { P with nx := K, ct := K, bk := P.nx } ρ1) (he : ∀ ρ, I n ρ → P.nx ρ) : ∀ (k j : Nat) (ρ : Ro), k + j = n → I j ρ → forW g tb P ((List.range' j k).map fun (j : Nat) => D.int (j : Int)) ρ
  | 0, j, ρ, e, h => he ρ (by rw [← e, Nat.zero_add]; exact h)
  | k + 1, j, ρ, e, h => by
    rw [List.range'_succ, List.map_cons]
    exact hs j ρ _ (by omega) h fun ρ' h' => forW_rg I n hs he k (j + 1) ρ' (by omega) h'
theorem fr_rg {m : Nat} (n : Nat) (I : Nat → Ro → Prop) (e : m = n) (h0 : I 0 ρ) (hs : ∀ (j : Nat) (ρ : Ro) (K : Ro → Prop), j < n → I j ρ → (∀ ρ', I (j + 1) ρ' → K ρ') → g (.int (j : Int)) ρ fun ρ1 => tb { P with nx := K, ct := K, bk := P.nx } ρ1) (he : ∀ ρ, I n ρ → P.nx ρ) : forW g tb P (rangeD 0 m) ρ := by
  subst e
  rw [rangeD_nat, List.range_eq_range']
  exact forW_rg I m hs he m 0 ρ (by omega) h0
end
end Pl
namespace Pl
open PySem PySem.Spec PyProof.Rows L2
variable [TJ]
def isOwn (ρ : Ro) (b : Addr) : Prop := ∃ (i : Nat) (xs : List D), ρ[i]? = some (some (.own b xs))
theorem CellOk.more {K : PySem.W.Frag} {G F H : Hp} {ρ : Ro} {v : V} {c : Cell} {p : Addr} {o : HO} (h : CellOk K G F H ρ v c) (hp : H p = none) : CellOk K G F (upd H p o) ρ v c := by
  cases c with
  | val d => exact h
  | own q xs =>
    obtain ⟨h1, h2, h3, h4, us, h5, h6⟩ := h
    exact ⟨h1, h2, h3, h4, us, by rw [upd_ne (ne_of_none h5 hp)]; exact h5, h6⟩
  | box s => exact h
end Pl
namespace Pl
open PySem PySem.Spec PyProof.Rows L2
def rowsD (rows : List (List Int)) : List D := rows.map fun r => .lst (r.map D.int)
def Rws (H : Hp) : List Addr → List (List Int) → Prop
  | [], [] => True
  | q :: qs, r :: rs => H q = some (.lst (r.map V.int)) ∧ Rws H qs rs
  | _, _ => False
theorem Rws.mono {H H' : Hp} (e : Same H H') : ∀ {qs : List Addr} {rs : List (List Int)}, Rws H qs rs → Rws H' qs rs
  | [], [], _ => trivial
  | _ :: _, _ :: _, h => ⟨e _ _ h.1, Rws.mono e h.2⟩
  | [], _ :: _, h => h.elim
  | _ :: _, [], h => h.elim
theorem Rws.upd {H : Hp} {p : Addr} {o : HO} : ∀ {qs : List Addr} {rs : List (List Int)}, p ∉ qs → Rws H qs rs → Rws (L2.upd H p o) qs rs
  | [], [], _, _ => trivial
  | q :: qs, r :: rs, n, h => ⟨by rw [upd_ne (fun e => n (by rw [← e]; exact List.mem_cons_self))]; exact h.1, Rws.upd (fun z => n (List.mem_cons_of_mem _ z)) h.2⟩
  | [], _ :: _, _, h => h.elim
  | _ :: _, [], _, h => h.elim
theorem Rws.len {H : Hp} : ∀ {qs : List Addr} {rs : List (List Int)}, Rws H qs rs → qs.length = rs.length
  | [], [], _ => rfl
  | _ :: _, _ :: _, h => by simp [Rws.len h.2]
  | [], _ :: _, h => h.elim
  | _ :: _, [], h => h.elim
theorem Rws.reps {K : PySem.W.Frag} {H F : Hp} : ∀ {qs : List Addr} {rs : List (List Int)}, (∀ q ∈ qs, F q = H q) → Rws H qs rs → Reps K F (qs.map V.ref) (rowsD rs)
  | [], [], _, _ => .nil
  | q :: qs, r :: rs, e, h => .cons (.lst ((e q List.mem_cons_self).trans h.1) (Reps.ofInts r)) (Rws.reps (fun x hx => e x (List.mem_cons_of_mem _ hx)) h.2)
  | [], _ :: _, _, h => h.elim
  | _ :: _, [], _, h => h.elim
structure SB (G F : Hp) (R : Addr) (qs : List Addr) (rows : List (List Int)) (H : Hp) : Prop where
  fF : Same F H
  fG : Same G H
  gR : G R = none
  fR : F R = none
  hR : H R = some (.lst (qs.reverse.map V.ref))
  nR : R ∉ qs
  nd : qs.Nodup
  gq : ∀ q ∈ qs, G q = none
  fq : ∀ q ∈ qs, F q = none
  hq : Rws H qs rows
theorem Rws.at {H : Hp} {q : Addr} : ∀ {qs : List Addr} {rs : List (List Int)}, q ∈ qs → Rws H qs rs → ∃ r : List Int, H q = some (.lst (r.map V.int))
  | _ :: _, r :: _, hq, h => by
    rcases List.mem_cons.mp hq with rfl | hq
    · exact ⟨r, h.1⟩
    · exact Rws.at hq h.2
  | [], _, hq, _ => absurd hq (by simp)
  | _ :: _, [], _, h => h.elim
theorem SB.up {G F F1 H H1 : Hp} {R : Addr} {qs : List Addr} {rows : List (List Int)} (B : SB G F R qs rows H) (u : Up H F F1) (e : Same H H1) (e1 : Same F1 H1) : SB G F1 R qs rows H1 := by
  refine ⟨e1, B.fG.trans e, B.gR, u.isNone B.fR B.hR, e _ _ B.hR, B.nR, B.nd, B.gq, fun q hq => ?_, B.hq.mono e⟩
  obtain ⟨r, hr⟩ := B.hq.at hq
  exact u.isNone (B.fq q hq) hr
theorem SB.more {G F H : Hp} {R p : Addr} {qs : List Addr} {rows : List (List Int)} (B : SB G F R qs rows H) (hp : H p = none) : SB G F R (p :: qs) ([] :: rows) (upd (upd H p (.lst [])) R (.lst (qs.reverse.map V.ref ++ [.ref p]))) := by
  have pR : p ≠ R := fun e => by subst e; rw [B.hR] at hp; cases hp
  have fp : F p = none := B.fF.free hp
  have gp : G p = none := B.fG.free hp
  have keep : ∀ (K : Hp), Same K H → K R = none → Same K (upd (upd H p (.lst [])) R (.lst (qs.reverse.map V.ref ++ [.ref p]))) := fun K e k a o h => by
    have aR : a ≠ R := fun z => by subst z; rw [k] at h; cases h
    have ap : a ≠ p := fun z => by subst z; rw [e.free hp] at h; cases h
    rw [upd_ne aR, upd_ne ap]
    exact e a o h
  have pq : p ∉ qs := fun z => by
    obtain ⟨r, hr⟩ := B.hq.at z
    rw [hr] at hp; cases hp
  refine ⟨keep F B.fF B.fR, keep G B.fG B.gR, B.gR, B.fR, ?_, ?_, List.nodup_cons.mpr ⟨pq, B.nd⟩, ?_, ?_, ?_, ?_⟩
  · rw [upd_same, List.reverse_cons, List.map_append]; rfl
  · intro z
    rcases List.mem_cons.mp z with z | z
    · exact pR z.symm
    · exact B.nR z
  · intro q hq
    rcases List.mem_cons.mp hq with rfl | hq
    · exact gp
    · exact B.gq q hq
  · intro q hq
    rcases List.mem_cons.mp hq with rfl | hq
    · exact fp
    · exact B.fq q hq
  · rw [upd_ne pR, upd_same]; rfl
  · exact (B.hq.upd pq).upd B.nR
theorem SB.grow {G F H : Hp} {R q : Addr} {qs : List Addr} {r : List Int} {rows : List (List Int)} (s : Int) (B : SB G F R (q :: qs) (r :: rows) H) : SB G F R (q :: qs) ((r ++ [s]) :: rows) (upd H q (.lst (r.map V.int ++ [.int s]))) := by
  have qR : R ≠ q := fun e => B.nR (by rw [e]; exact List.mem_cons_self)
  have keep : ∀ (K : Hp), Same K H → K q = none → Same K (upd H q (.lst (r.map V.int ++ [.int s]))) := fun K e k a o h => by
    have aq : a ≠ q := fun z => by subst z; rw [k] at h; cases h
    rw [upd_ne aq]
    exact e a o h
  refine ⟨keep F B.fF (B.fq q List.mem_cons_self), keep G B.fG (B.gq q List.mem_cons_self), B.gR, B.fR, by rw [upd_ne qR]; exact B.hR, B.nR, B.nd, B.gq, B.fq, ?_, B.hq.2.upd (List.nodup_cons.mp B.nd).1⟩
  rw [upd_same, List.map_append]
  rfl
theorem SB.froz {K : PySem.W.Frag} {G F H : Hp} {R : Addr} {qs : List Addr} {rows : List (List Int)} {d : D} {v0 : V} {w2 : Option V} (B : SB G F R qs rows H) (r0 : Rep K F v0 d) :
    ∃ F', Up G F F' ∧ Sim K G F' H ([some v0, some (.ref R), w2] ++ [some (.ref R)]) ([some (.val d), none, none] ++ [some (.own R (rowsD rows.reverse))]) := by
  refine ⟨fun a => if a ∈ qs then H a else F a, ⟨fun a o h => ?_, fun a o h => ?_⟩, ⟨fun a o h => ?_, SameJ.of B.fG, rfl, fun i d' h => ?_, fun i a xs h => ?_, fun i j a xs ys h1 h2 => ?_, .nil fun i s h => by
    match i, h with
    | 0, h => cases h
    | 1, h => cases h
    | 2, h => cases h
    | 3, h => cases h
    | _ + 4, h => simp at h⟩⟩
  · have h1 : a ∉ qs := fun z => by rw [B.fq a z] at h; cases h
    show (if a ∈ qs then H a else F a) = some o
    rw [if_neg h1]; exact h
  · have h : (if a ∈ qs then H a else F a) = some o := h
    by_cases z : a ∈ qs
    · exact .inr (B.gq a z)
    · rw [if_neg z] at h; exact .inl h
  · have h : (if a ∈ qs then H a else F a) = some o := h
    by_cases z : a ∈ qs
    · rw [if_pos z] at h; exact h
    · rw [if_neg z] at h; exact B.fF a o h
  · have hmono : Same F (fun a => if a ∈ qs then H a else F a) := fun a o h => by
      have h1 : a ∉ qs := fun z => by rw [B.fq a z] at h; cases h
      show (if a ∈ qs then H a else F a) = some o
      rw [if_neg h1]; exact h
    match i, h with
    | 0, h =>
      cases h
      exact ⟨v0, rfl, r0.mono hmono⟩
    | 1, h => cases h
    | 2, h => cases h
    | 3, h => cases h
    | _ + 4, h => simp at h
  · match i, h with
    | 0, h => cases h
    | 1, h => cases h
    | 2, h => cases h
    | 3, h =>
      cases h
      refine ⟨rfl, ?_, B.gR, qs.reverse.map V.ref, B.hR, ?_⟩
      · show (if R ∈ qs then H R else F R) = none
        rw [if_neg B.nR]; exact B.fR
      · have := Rws.reps (K := K) (F := fun a => if a ∈ qs then H a else F a) (fun q hq => if_pos hq) B.hq
        have := this.reverse
        rw [← List.map_reverse] at this
        have e : rowsD rows.reverse = (rowsD rows).reverse := by unfold rowsD; rw [List.map_reverse]
        rw [e]
        exact this
    | _ + 4, h => simp at h
  · match i, j, h1, h2 with
    | 3, 3, _, _ => rfl
    | 0, _, h1, _ => cases h1
    | 1, _, h1, _ => cases h1
    | 2, _, h1, _ => cases h1
    | 3, 0, _, h2 => cases h2
    | 3, 1, _, h2 => cases h2
    | 3, 2, _, h2 => cases h2
    | 3, _ + 4, _, h2 => simp at h2
    | _ + 4, _, h1, _ => simp at h1
end Pl
namespace PySem.W
open PySem Sem PyProof.Rows
structure Z3 (z TI TO i1 i2 i3 l1 l2 l3 : Addr) : Prop where
  i1z : i1 ≠ z
  i2z : i2 ≠ z
  i3z : i3 ≠ z
  i12 : i1 ≠ i2
  i13 : i1 ≠ i3
  i23 : i2 ≠ i3
  l1z : l1 ≠ z
  l2z : l2 ≠ z
  l3z : l3 ≠ z
  l11 : l1 ≠ i1
  l12 : l1 ≠ i2
  l13 : l1 ≠ i3
  l21 : l2 ≠ i1
  l22 : l2 ≠ i2
  l23 : l2 ≠ i3
  l31 : l3 ≠ i1
  l32 : l3 ≠ i2
  l33 : l3 ≠ i3
  Tz : TI ≠ z
  T1 : TI ≠ i1
  T2 : TI ≠ i2
  T3 : TI ≠ i3
  lO1 : l1 ≠ TO
  lO2 : l2 ≠ TO
  lO3 : l3 ≠ TO
  TTO : TI ≠ TO
section
variable {prog : Program} {w : World} {A : Around} {E : Value → Shared → Prop} {s : Shared} {z TI TO T i1 i2 i3 l1 l2 l3 : Addr} {f : Bool} {oT : Obj} {k : Nat} {xs ys us : Array Value} {x y u : Value}
theorem z3_next_item_held {Q : Value → Shared → Prop} (D : Z3 z TI TO i1 i2 i3 l1 l2 l3) (hz : IsZipHeld s.heap z TI TO T f) (hT : s.heap.get? T = some oT) (hTI : IsTupOf3 s.heap TI (.ref i1) (.ref i2) (.ref i3))
    (h1 : s.heap.IsListIter i1 l1 k) (h2 : s.heap.IsListIter i2 l2 k) (h3 : s.heap.IsListIter i3 l3 k) (hl1 : s.heap.IsList l1 xs) (hl2 : s.heap.IsList l2 ys) (hl3 : s.heap.IsList l3 us) (hx : xs[k]? = some x) (hy : ys[k]? = some y) (hu : us[k]? = some u)
    (hQ : ∀ h', IsZipHeld h' z TI TO T true → h'.IsListIter i1 l1 (k + 1) → h'.IsListIter i2 l2 (k + 1) → h'.IsListIter i3 l3 (k + 1) → IsTupOf3 h' s.heap.objs.size x y u → h'.objs.size = s.heap.objs.size + 1 →
      (∀ c o, c ≠ z → c ≠ i1 → c ≠ i2 → c ≠ i3 → s.heap.get? c = some o → h'.get? c = some o) → Q (.ref s.heap.objs.size) { s with heap := h' }) :
    wpAny (model prog w) A (Builtin.«zip.__next__» ⟨[.ref z], []⟩) (fun fin s' => ∃ v, fin = .done (.ret v) ∧ Q v s') E s := by
  show wpAny _ _ (field (.ref z) 2 >>= _) _ _ _
  refine wpAny_bind (wpAny_field hz rfl (x := .bool false) rfl ?_)
  show wpAny _ _ (field (.ref z) 3 >>= _) _ _ _
  refine wpAny_bind (wpAny_field hz rfl (x := .ref TI) rfl ?_)
  refine wpAny_bind (wpAny_seqItems hTI rfl ?_)
  show wpAny _ _ (Builtin.SmallTypes.ownedTupleIsFree (.ref z) >>= _) _ _ _
  refine wpAny_bind (wpAny_tupleHeld_zip hz hT fun h₁ hz₁ hs₁ => ?_)
  simp only [Bool.false_eq_true, if_false]
  refine wpAny_bind ?_
  rw [← Array.forIn_toList]
  simp only [List.forIn_cons, List.forIn_nil]
  refine wpAny_bind (wpAny_bind (wpAny_holding ?_))
  show wpAny _ _ (Builtin.SmallTypes.nextOf (.ref i1) >>= _) _ _ _
  refine wpAny_bind (wpAny_nextOf_list_item (s := { s with heap := h₁ }) (h1.extBut hs₁.extBut D.i1z) (hl1.extBut hs₁.extBut D.l1z) hx fun h₂ h1₂ hs₂ => wpAny_pure ?_)
  refine wpAny_pure ?_
  refine wpAny_bind (wpAny_bind (wpAny_holding ?_))
  show wpAny _ _ (Builtin.SmallTypes.nextOf (.ref i2) >>= _) _ _ _
  refine wpAny_bind (wpAny_nextOf_list_item (s := { s with heap := h₂ }) ((h2.extBut hs₁.extBut D.i2z).extBut hs₂.extBut D.i12.symm) ((hl2.extBut hs₁.extBut D.l2z).extBut hs₂.extBut D.l21) hy fun h₃ h2₃ hs₃ => wpAny_pure ?_)
  refine wpAny_pure ?_
  refine wpAny_bind (wpAny_bind (wpAny_holding ?_))
  show wpAny _ _ (Builtin.SmallTypes.nextOf (.ref i3) >>= _) _ _ _
  refine wpAny_bind (wpAny_nextOf_list_item (s := { s with heap := h₃ }) (((h3.extBut hs₁.extBut D.i3z).extBut hs₂.extBut D.i13.symm).extBut hs₃.extBut D.i23.symm) (((hl3.extBut hs₁.extBut D.l3z).extBut hs₂.extBut D.l31).extBut hs₃.extBut D.l32) hu fun h₄ h3₄ hs₄ => wpAny_pure ?_)
  refine wpAny_pure (wpAny_pure ?_)
  show wpAny _ _ (newTuple [x, y, u] >>= _) _ _ _
  refine wpAny_bind (wpAny_newTuple ?_)
  have hsz : h₄.objs.size = s.heap.objs.size := by rw [hs₄.1, hs₃.1, hs₂.1, hs₁.1]
  have hz₄ : IsZipHeld h₄ z TI TO T true := hs₄.extBut _ _ D.i3z.symm (hs₃.extBut _ _ D.i2z.symm (hs₂.extBut _ _ D.i1z.symm hz₁))
  have hk : ∀ c o, c ≠ z → c ≠ i1 → c ≠ i2 → c ≠ i3 → s.heap.get? c = some o → h₄.get? c = some o := fun c o c1 c2 c3 c4 e => hs₄.extBut _ _ c4 (hs₃.extBut _ _ c3 (hs₂.extBut _ _ c2 (hs₁.extBut _ _ c1 e)))
  have h1₄ : h₄.IsListIter i1 l1 (k + 1) := (h1₂.extBut hs₃.extBut D.i12).extBut hs₄.extBut D.i13
  have h2₄ : h₄.IsListIter i2 l2 (k + 1) := h2₃.extBut hs₄.extBut D.i23
  refine wpAny_pure ⟨_, rfl, ?_⟩
  show Q (.ref h₄.objs.size) _
  have hp : IsTupOf3 (h₄.push { cls := .type "tuple", data := .seq #[x, y, u] }) h₄.objs.size x y u := Heap.get?_push_size _ rfl
  have hz5 : (h₄.push { cls := .type "tuple", data := .seq #[x, y, u] }).objs.size = h₄.objs.size + 1 := Heap.size_push ..
  rw [hsz] at hp hz5 ⊢
  exact hQ _ (Heap.get?_push_of_some _ hz₄) (h1₄.at fun o e => Heap.get?_push_of_some _ e) (h2₄.at fun o e => Heap.get?_push_of_some _ e) (h3₄.at fun o e => Heap.get?_push_of_some _ e) hp hz5 fun c o c1 c2 c3 c4 e => Heap.get?_push_of_some _ (hk c o c1 c2 c3 c4 e)
theorem z3_next_end_held {Q : Fin → Shared → Prop} (hh : A.handled = none) (D : Z3 z TI TO i1 i2 i3 l1 l2 l3) (hz : IsZipHeld s.heap z TI TO T f) (hT : s.heap.get? T = some oT) (hTI : IsTupOf3 s.heap TI (.ref i1) (.ref i2) (.ref i3))
    (h1 : s.heap.IsListIter i1 l1 k) (hl1 : s.heap.IsList l1 xs) (hx : xs[k]? = none)
    (hE : ∀ h' e, (∀ c o, c ≠ z → c ≠ i1 → s.heap.get? c = some o → h'.get? c = some o) → (∃ o, h'.get? e = some o ∧ o.cls = .type "StopIteration") → E (.ref e) { s with heap := h' }) :
    wpAny (model prog w) A (Builtin.«zip.__next__» ⟨[.ref z], []⟩) Q E s := by
  show wpAny _ _ (field (.ref z) 2 >>= _) _ _ _
  refine wpAny_bind (wpAny_field hz rfl (x := .bool false) rfl ?_)
  show wpAny _ _ (field (.ref z) 3 >>= _) _ _ _
  refine wpAny_bind (wpAny_field hz rfl (x := .ref TI) rfl ?_)
  refine wpAny_bind (wpAny_seqItems hTI rfl ?_)
  show wpAny _ _ (Builtin.SmallTypes.ownedTupleIsFree (.ref z) >>= _) _ _ _
  refine wpAny_bind (wpAny_tupleHeld_zip hz hT fun h₁ hz₁ hs₁ => ?_)
  simp only [Bool.false_eq_true, if_false]
  refine wpAny_bind ?_
  rw [← Array.forIn_toList]
  simp only [List.forIn_cons, List.forIn_nil]
  refine wpAny_bind (wpAny_bind (wpAny_holding ?_))
  show wpAny _ _ (Builtin.SmallTypes.nextOf (.ref i1) >>= _) _ _ _
  refine wpAny_bind (wpAny_nextOf_list_end (s := { s with heap := h₁ }) hh (h1.extBut hs₁.extBut D.i1z) (hl1.extBut hs₁.extBut D.l1z) hx fun h₂ e hs₂ he => ?_)
  exact hE h₂ e (fun c o c1 c2 x => hs₂ _ _ c2 (hs₁.extBut _ _ c1 x)) he
theorem z3_pyNext_item_held {Q : Option Value → Shared → Prop} (D : Z3 z TI TO i1 i2 i3 l1 l2 l3) (hz : IsZipHeld s.heap z TI TO T f) (hT : s.heap.get? T = some oT) (hTI : IsTupOf3 s.heap TI (.ref i1) (.ref i2) (.ref i3))
    (h1 : s.heap.IsListIter i1 l1 k) (h2 : s.heap.IsListIter i2 l2 k) (h3 : s.heap.IsListIter i3 l3 k) (hl1 : s.heap.IsList l1 xs) (hl2 : s.heap.IsList l2 ys) (hl3 : s.heap.IsList l3 us) (hx : xs[k]? = some x) (hy : ys[k]? = some y) (hu : us[k]? = some u)
    (hQ : ∀ h', IsZipHeld h' z TI TO T true → h'.IsListIter i1 l1 (k + 1) → h'.IsListIter i2 l2 (k + 1) → h'.IsListIter i3 l3 (k + 1) → IsTupOf3 h' s.heap.objs.size x y u → h'.objs.size = s.heap.objs.size + 1 →
      (∀ c o, c ≠ z → c ≠ i1 → c ≠ i2 → c ≠ i3 → s.heap.get? c = some o → h'.get? c = some o) → Q (some (.ref s.heap.objs.size)) { s with heap := h' }) :
    wpAny (model prog w) A (pyNext (.ref z)) Q E s := by
  have hTy : s.TypeIs (.ref z) "zip" := ⟨_, hz, rfl⟩
  unfold pyNext
  exact wpAny_bind (wpAny_attempt (wpAny_callSpecial?_slot (name := Str.ofString "__next__") hTy F.slot_zip_next
    (wpAny_call_entry F.slot_zip_next hTy F.entry_zip_next
      (z3_next_item_held D hz hT hTI h1 h2 h3 hl1 hl2 hl3 hx hy hu fun h' a1 a2 a3 a4 a5 a6 a7 => wpAny_pure (hQ h' a1 a2 a3 a4 a5 a6 a7)) (F.args_zip_next_1 _))))
theorem z3_pyNext_end_held {Q : Option Value → Shared → Prop} (hh : A.handled = none) (D : Z3 z TI TO i1 i2 i3 l1 l2 l3) (hz : IsZipHeld s.heap z TI TO T f) (hT : s.heap.get? T = some oT) (hTI : IsTupOf3 s.heap TI (.ref i1) (.ref i2) (.ref i3))
    (h1 : s.heap.IsListIter i1 l1 k) (hl1 : s.heap.IsList l1 xs) (hx : xs[k]? = none)
    (hQ : ∀ h', (∀ c o, c ≠ z → c ≠ i1 → s.heap.get? c = some o → h'.get? c = some o) → Q none { s with heap := h' }) : wpAny (model prog w) A (pyNext (.ref z)) Q E s := by
  have hTy : s.TypeIs (.ref z) "zip" := ⟨_, hz, rfl⟩
  unfold pyNext
  refine wpAny_bind (wpAny_attempt (wpAny_callSpecial?_slot (name := Str.ofString "__next__") hTy F.slot_zip_next
    (wpAny_call_entry F.slot_zip_next hTy F.entry_zip_next (z3_next_end_held hh D hz hT hTI h1 hl1 hx fun h' e hk he => ?_) (F.args_zip_next_1 _))))
  obtain ⟨o, ho, hc⟩ := he
  refine wpAny_bind (wpAny_isInstance (T := "StopIteration") (b := true) ⟨o, ho, hc⟩ isSubtype_stop ?_)
  exact wpAny_pure (hQ _ hk)
end
end PySem.W
namespace PySem.W
open PySem Sem PyProof.Rows
structure Z3St (S z TI TO i1 i2 i3 l1 l2 l3 : Addr) (xs ys us : Array Value) (h : Heap) (i : Nat) : Prop where
  hTI : IsTupOf3 h TI (.ref i1) (.ref i2) (.ref i3)
  h1 : h.IsListIter i1 l1 i
  h2 : h.IsListIter i2 l2 i
  h3 : h.IsListIter i3 l3 i
  hl1 : h.IsList l1 xs
  hl2 : h.IsList l2 ys
  hl3 : h.IsList l3 us
  st : (i = 0 ∧ IsZip h z TI TO .none ∧ ∃ a1 a2 a3, IsTupOf3 h TO a1 a2 a3) ∨ ∃ T f oT, IsZipHeld h z TI TO T f ∧ h.get? T = some oT ∧ S < T
structure ZLow (S z TI TO i1 i2 i3 l1 l2 l3 : Addr) : Prop where
  z : z < S
  TI : TI < S
  TO : TO < S
  i1 : i1 < S
  i2 : i2 < S
  i3 : i3 < S
  l1 : l1 < S
  l2 : l2 < S
  l3 : l3 < S
theorem isList_at {h h' : Heap} {l : Addr} {items : Array Value} (x : h.IsList l items) (e : ∀ o, h.get? l = some o → h'.get? l = some o) : h'.IsList l items := by
  obtain ⟨o, ho, r⟩ := x
  exact ⟨o, e o ho, r⟩
section
variable {S z TI TO i1 i2 i3 l1 l2 l3 : Addr} {xs ys us : Array Value}
theorem Z3St.keep {h h' : Heap} {i : Nat} (x : Z3St S z TI TO i1 i2 i3 l1 l2 l3 xs ys us h i) (e : ∀ b o, b ≠ S → h.get? b = some o → h'.get? b = some o)
    (L : ZLow S z TI TO i1 i2 i3 l1 l2 l3) : Z3St S z TI TO i1 i2 i3 l1 l2 l3 xs ys us h' i := by
  refine ⟨e _ _ (Nat.ne_of_lt L.TI) x.hTI, x.h1.at fun o q => e _ o (Nat.ne_of_lt L.i1) q, x.h2.at fun o q => e _ o (Nat.ne_of_lt L.i2) q, x.h3.at fun o q => e _ o (Nat.ne_of_lt L.i3) q, isList_at x.hl1 fun o q => e _ o (Nat.ne_of_lt L.l1) q, isList_at x.hl2 fun o q => e _ o (Nat.ne_of_lt L.l2) q, isList_at x.hl3 fun o q => e _ o (Nat.ne_of_lt L.l3) q, ?_⟩
  rcases x.st with ⟨e0, hz, p, q, r, hTO⟩ | ⟨T, f, oT, hz, hT, hl⟩
  · exact .inl ⟨e0, e _ _ (Nat.ne_of_lt L.z) hz, p, q, r, e _ _ (Nat.ne_of_lt L.TO) hTO⟩
  · exact .inr ⟨T, f, oT, e _ _ (Nat.ne_of_lt L.z) hz, e _ _ (Nat.ne_of_gt hl) hT, hl⟩
section
variable {prog : Program} {w : World} {A : Around} {E : Value → Shared → Prop} {s : Shared} {i n : Nat}
theorem z3_item {Q : Option Value → Shared → Prop} (hh : A.handled = none) (ZS : ZipSep3 z TI TO i1 i2 i3 [i1, l1] [i2, l2] [i3, l3]) (D : Z3 z TI TO i1 i2 i3 l1 l2 l3) (L : ZLow S z TI TO i1 i2 i3 l1 l2 l3) (nx : xs.size = n) (ny : ys.size = n) (nu : us.size = n) (hst : Z3St S z TI TO i1 i2 i3 l1 l2 l3 xs ys us s.heap i) (hlt : i < n) (hS : S < s.heap.objs.size)
    (hQ : ∀ h' tk x y u, Z3St S z TI TO i1 i2 i3 l1 l2 l3 xs ys us h' (i + 1) → xs[i]? = some x → ys[i]? = some y → us[i]? = some u → IsTupOf3 h' s.heap.objs.size x y u → (∀ c o, c ≠ z → c ≠ TO → c ≠ i1 → c ≠ i2 → c ≠ i3 → s.heap.get? c = some o → h'.get? c = some o) → Q (some (.ref s.heap.objs.size)) { s with heap := h', toks := tk }) :
    wpAny (model prog w) A (pyNext (.ref z)) Q E s := by
  rcases hst.st with ⟨e0, hz, p, q, r, hTO⟩ | ⟨T, f, oT, hz, hT, hl⟩
  · refine wpAny_pyNext_zipD3_item ZS (Draws.list (A := A.in1) hh i1 l1 D.l11 xs) (Draws.list (A := A.in1) hh i2 l2 D.l22 ys) (Draws.list (A := A.in1) hh i3 l3 D.l33 us) hz hst.hTI hTO ⟨hst.h1, hst.hl1⟩ ⟨hst.h2, hst.hl2⟩ ⟨hst.h3, hst.hl3⟩ (by omega) (by omega) (by omega) fun x y u h' tk e1 e2 e3 hz' hTO' k1 k2 k3 hT' hsz hk => ?_
    exact hQ h' tk x y u ⟨hk _ _ D.Tz D.TTO D.T1 D.T2 D.T3 hst.hTI, k1.1, k2.1, k3.1, k1.2, k2.2, k3.2, .inr ⟨_, false, _, hz', hT', hS⟩⟩ e1 e2 e3 hT' hk
  · obtain ⟨x, hx⟩ : ∃ x, xs[i]? = some x := ⟨_, Array.getElem?_eq_getElem (by omega)⟩
    obtain ⟨y, hy⟩ : ∃ y, ys[i]? = some y := ⟨_, Array.getElem?_eq_getElem (by omega)⟩
    obtain ⟨u, hu⟩ : ∃ u, us[i]? = some u := ⟨_, Array.getElem?_eq_getElem (by omega)⟩
    refine z3_pyNext_item_held D hz hT hst.hTI hst.h1 hst.h2 hst.h3 hst.hl1 hst.hl2 hst.hl3 hx hy hu fun h' hz' k1 k2 k3 hT' hsz hk => ?_
    have hk' : ∀ c o, c ≠ z → c ≠ TO → c ≠ i1 → c ≠ i2 → c ≠ i3 → s.heap.get? c = some o → h'.get? c = some o := fun c o c1 _ c2 c3 c4 e => hk c o c1 c2 c3 c4 e
    have hTw' : T ≠ z ∧ T ≠ i1 ∧ T ≠ i2 ∧ T ≠ i3 := ⟨Nat.ne_of_gt (Nat.lt_trans L.z hl), Nat.ne_of_gt (Nat.lt_trans L.i1 hl), Nat.ne_of_gt (Nat.lt_trans L.i2 hl), Nat.ne_of_gt (Nat.lt_trans L.i3 hl)⟩
    exact hQ h' s.toks x y u ⟨hk _ _ D.Tz D.T1 D.T2 D.T3 hst.hTI, k1, k2, k3, isList_at hst.hl1 fun o q => hk _ o D.l1z D.l11 D.l12 D.l13 q, isList_at hst.hl2 fun o q => hk _ o D.l2z D.l21 D.l22 D.l23 q, isList_at hst.hl3 fun o q => hk _ o D.l3z D.l31 D.l32 D.l33 q, .inr ⟨T, true, oT, hz', hk _ _ hTw'.1 hTw'.2.1 hTw'.2.2.1 hTw'.2.2.2 hT, hl⟩⟩ hx hy hu hT' hk'
theorem z3_done {Q : Option Value → Shared → Prop} (hh : A.handled = none) (ZS : ZipSep3 z TI TO i1 i2 i3 [i1, l1] [i2, l2] [i3, l3]) (D : Z3 z TI TO i1 i2 i3 l1 l2 l3) (nx : xs.size = n) (ny : ys.size = n) (nu : us.size = n) (hst : Z3St S z TI TO i1 i2 i3 l1 l2 l3 xs ys us s.heap n)
    (hQ : ∀ h' tk, (∀ c o, c ≠ z → c ≠ TO → c ≠ i1 → c ≠ i2 → c ≠ i3 → s.heap.get? c = some o → h'.get? c = some o) → Q none { s with heap := h', toks := tk }) :
    wpAny (model prog w) A (pyNext (.ref z)) Q E s := by
  rcases hst.st with ⟨e0, hz, p, q, r, hTO⟩ | ⟨T, f, oT, hz, hT, hl⟩
  · exact wpAny_pyNext_zipD3_end ZS (Draws.list (A := A.in1) hh i1 l1 D.l11 xs) (Draws.list (A := A.in1) hh i2 l2 D.l22 ys) (Draws.list (A := A.in1) hh i3 l3 D.l33 us) hz hst.hTI hTO ⟨hst.h1, hst.hl1⟩ ⟨hst.h2, hst.hl2⟩ ⟨hst.h3, hst.hl3⟩ (by omega) (by omega) (by omega) (.inl nx.symm) hQ
  · exact z3_pyNext_end_held hh D hz hT hst.hTI hst.h1 hst.hl1 (Array.getElem?_eq_none (by omega)) fun h' hk => hQ h' s.toks fun c o c1 _ c2 _ _ e => hk c o c1 c2 e
structure G3 (xs ys us : Array Value) (lo : Addr) (h : Heap) (as : List Addr) : Prop where
  rise : as.Pairwise (· < ·)
  above : ∀ a ∈ as, lo < a
  tups : ∀ (j : Nat) (a : Addr), as[j]? = some a → ∃ x y u, xs[j]? = some x ∧ ys[j]? = some y ∧ us[j]? = some u ∧ IsTupOf3 h a x y u
theorem G3.there {lo : Addr} {h : Heap} {as : List Addr} (g : G3 xs ys us lo h as) {a : Addr} (ha : a ∈ as) : a < h.objs.size := by
  obtain ⟨j, hj⟩ := List.mem_iff_getElem?.mp ha
  obtain ⟨_, _, _, _, _, _, e⟩ := g.tups j a hj
  exact Heap.lt_size e
theorem z3_loop {R : Result → Shared → Prop} (hh : A.handled = none) (ZS : ZipSep3 z TI TO i1 i2 i3 [i1, l1] [i2, l2] [i3, l3]) (D : Z3 z TI TO i1 i2 i3 l1 l2 l3) (L : ZLow S z TI TO i1 i2 i3 l1 l2 l3) (nx : xs.size = n) (ny : ys.size = n) (nu : us.size = n) (hn : n ≤ sizeLine) (res : Value) {h₁ : Heap}
    (hR : ∀ h' tk acc c as, (∀ b o, b ≠ S → b ≠ z → b ≠ TO → b ≠ i1 → b ≠ i2 → b ≠ i3 → h₁.get? b = some o → h'.get? b = some o) → h'.get? S = some { cls := .type "list", dict := none, data := .seq acc c, slots := #[] } → as.length = n → G3 xs ys us S h' as →
      acc.toList = as.map Value.ref → R (.ok (.ret res)) { s with heap := h', toks := tk }) :
    ∀ (k i : Nat) (h : Heap) (tk c : Nat) (acc : Array Value) (as : List Addr), n - i = k → i ≤ n → Z3St S z TI TO i1 i2 i3 l1 l2 l3 xs ys us h i → (∀ b o, b ≠ S → b ≠ z → b ≠ TO → b ≠ i1 → b ≠ i2 → b ≠ i3 → h₁.get? b = some o → h.get? b = some o) →
      h.get? S = some { cls := .type "list", dict := none, data := .seq acc c, slots := #[] } → acc.toList = as.map Value.ref → as.length = i → G3 xs ys us S h as →
      codeAny (model prog w) A (.builtin "list.extend.loop" ⟨[.ref S, .ref z, res], []⟩) R { s with heap := h, toks := tk } := by
  have hSz : S ≠ z := Nat.ne_of_gt L.z
  have hSO : S ≠ TO := Nat.ne_of_gt L.TO
  have hS1 : S ≠ i1 := Nat.ne_of_gt L.i1
  have hS2 : S ≠ i2 := Nat.ne_of_gt L.i2
  have hS3 : S ≠ i3 := Nat.ne_of_gt L.i3
  have out : ∀ {a : Addr}, S < a → a ≠ z ∧ a ≠ TO ∧ a ≠ i1 ∧ a ≠ i2 ∧ a ≠ i3 := fun {a} ha => ⟨Nat.ne_of_gt (Nat.lt_trans L.z ha), Nat.ne_of_gt (Nat.lt_trans L.TO ha), Nat.ne_of_gt (Nat.lt_trans L.i1 ha), Nat.ne_of_gt (Nat.lt_trans L.i2 ha), Nat.ne_of_gt (Nat.lt_trans L.i3 ha)⟩
  intro k
  induction k with
  | zero =>
    intro i h tk c acc as hk hi hst hkeep hS hacc hal hG
    have hin : i = n := by omega
    subst hin
    refine codeAny_builtin PySem.F.entry_extend_loop ?_
    rw [Around.under_plainId PySem.F.plain_extend_loop _]
    show wpAny _ A.in1 (pyNext (.ref z) >>= _) _ _ _
    refine wpAny_bind (z3_done (s := { s with heap := h, toks := tk }) (A := A.in1) hh ZS D nx ny nu hst fun h' tk' he => ?_)
    refine wpAny_pure (hR h' tk' acc c as (fun b o b0 b1 b2 b3 b4 b5 e => he b o b1 b2 b3 b4 b5 (hkeep b o b0 b1 b2 b3 b4 b5 e)) (he S _ hSz hSO hS1 hS2 hS3 hS) hal ⟨hG.rise, hG.above, fun j a hj => ?_⟩ hacc)
    obtain ⟨x, y, u, e1, e2, e3, e4⟩ := hG.tups j a hj
    obtain ⟨o1, o2, o3, o4, o5⟩ := out (hG.above a (List.mem_of_getElem? hj))
    exact ⟨x, y, u, e1, e2, e3, he a _ o1 o2 o3 o4 o5 e4⟩
  | succ k ih =>
    intro i h tk c acc as hk hi hst hkeep hS hacc hal hG
    have hlt : i < n := by omega
    have hsz : acc.size = i := by rw [← Array.length_toList, hacc, List.length_map, hal]
    have hSl : S < h.objs.size := Heap.lt_size hS
    refine codeAny_builtin PySem.F.entry_extend_loop ?_
    rw [Around.under_plainId PySem.F.plain_extend_loop _]
    show wpAny _ A.in1 (pyNext (.ref z) >>= _) _ _ _
    refine wpAny_bind (z3_item (s := { s with heap := h, toks := tk }) (A := A.in1) hh ZS D L nx ny nu hst hlt hSl fun h' tk' x y u hst' ex ey eu ht hkp => ?_)
    dsimp only at ht hkp ⊢
    have hS' := hkp S _ hSz hSO hS1 hS2 hS3 hS
    have up : ∀ b o, b ≠ S → h'.get? b = some o → (h'.update S (Obj.mapSeq (·.push (Value.ref h.objs.size)))).get? b = some o := fun b o hb e => (Heap.get?_update_other _ _ (Ne.symm hb)).trans e
    show wpAny _ A.in1 (updateSeq S (·.push (Value.ref h.objs.size)) >>= _) _ _ _
    refine wpAny_bind ?_
    refine wpAny_updateSeq hS' rfl (wpAny_pure ⟨plainId_quiet PySem.F.plain_extend_loop _, ih (i + 1) _ tk' _ (acc.push (Value.ref h.objs.size)) (as ++ [h.objs.size]) (by omega) hlt (hst'.keep up L)
      (fun b o b0 b1 b2 b3 b4 b5 e => up b o b0 (hkp b o b1 b2 b3 b4 b5 (hkeep b o b0 b1 b2 b3 b4 b5 e))) (Heap.get?_update_self _ hS' rfl) (by rw [Array.toList_push, hacc, List.map_append]; rfl) (by rw [List.length_append, hal]; rfl) ⟨?_, ?_, ?_⟩⟩) (by rw [hsz]; omega) (by show (acc.push (Value.ref h.objs.size)).size ≤ sizeLine + 1; rw [Array.size_push, hsz]; omega)
    · refine List.pairwise_append.mpr ⟨hG.rise, List.pairwise_singleton _ _, fun a ha b hb => ?_⟩
      rw [List.mem_singleton.mp hb]
      exact hG.there ha
    · intro a ha
      rcases List.mem_append.mp ha with ha | ha
      · exact hG.above a ha
      · rw [List.mem_singleton.mp ha]; exact hSl
    · intro j b hj
      rcases Nat.lt_trichotomy j as.length with h1 | h1 | h1
      · rw [List.getElem?_append_left h1] at hj
        obtain ⟨x', y', u', e1, e2, e3, e4⟩ := hG.tups j b hj
        have hb := hG.above b (List.mem_of_getElem? hj)
        obtain ⟨o1, o2, o3, o4, o5⟩ := out hb
        exact ⟨x', y', u', e1, e2, e3, up b _ (Nat.ne_of_gt hb) (hkp b _ o1 o2 o3 o4 o5 e4)⟩
      · subst h1
        have hb : h.objs.size = b := by simpa using hj
        subst hb
        subst hal
        exact ⟨x, y, u, ex, ey, eu, up _ _ (Nat.ne_of_gt hSl) ht⟩
      · have hnone : (as ++ [h.objs.size])[j]? = none := List.getElem?_eq_none (by rw [List.length_append, List.length_singleton]; omega)
        rw [hnone] at hj; cases hj
end
end
end PySem.W
namespace PySem.W
open PySem Sem PyProof.Rows
theorem zip_no_len : typeLookup (.type "zip") "__len__" = pure none := am_miss_of_fast (by decide +kernel)
theorem zip_no_hint : typeLookup (.type "zip") "__length_hint__" = pure none := am_miss_of_fast (by decide +kernel)
section
variable {S z TI TO i1 i2 i3 l1 l2 l3 : Addr} {xs ys us : Array Value} {prog : Program} {w : World} {A : Around} {E : Value → Shared → Prop} {s : Shared} {n : Nat}
theorem z3_extend {R : Result → Shared → Prop} (hh : A.handled = none) (ZS : ZipSep3 z TI TO i1 i2 i3 [i1, l1] [i2, l2] [i3, l3]) (D : Z3 z TI TO i1 i2 i3 l1 l2 l3) (L : ZLow S z TI TO i1 i2 i3 l1 l2 l3) (nx : xs.size = n) (ny : ys.size = n) (nu : us.size = n) (hn : n ≤ sizeLine) (res : Value) (c₀ : Nat)
    (hz : IsZip s.heap z TI TO .none) (hst : Z3St S z TI TO i1 i2 i3 l1 l2 l3 xs ys us s.heap 0) (hS : s.heap.get? S = some { cls := .type "list", data := .seq #[] c₀ })
    (hR : ∀ h' tk acc c as, (∀ b o, b ≠ S → b ≠ z → b ≠ TO → b ≠ i1 → b ≠ i2 → b ≠ i3 → s.heap.get? b = some o → h'.get? b = some o) → h'.get? S = some { cls := .type "list", dict := none, data := .seq acc c, slots := #[] } → as.length = n → G3 xs ys us S h' as →
      acc.toList = as.map Value.ref → R (.ok (.ret res)) { s with heap := h', toks := tk }) :
    wpAny (model prog w) A.in1 (Builtin.List.listExtendWith (.ref S) (.ref z) res)
      (fun fin s' => match fin with | .done f => R (.ok f) s' | .again c' => c'.quiet = true ∧ codeAny (model prog w) A c' R s') (fun e s' => R (.error e) s') s := by
  have hT : s.TypeIs (.ref z) "zip" := ⟨_, hz, rfl⟩
  unfold Builtin.List.listExtendWith
  refine wpAny_bind (wpAny_typeOf (T := "zip") hT ?_)
  have h1 : Builtin.List.listSameRef (.ref S) (.ref z) = false := by simp [Builtin.List.listSameRef, Nat.ne_of_gt L.z]
  have h2 : (Value.type "zip" == Value.type "list") = false := by decide
  have h3 : (Value.type "zip" == Value.type "tuple") = false := by decide
  simp only [h1, h2, h3, Bool.or_false, Bool.false_eq_true, if_false]
  refine wpAny_bind (wpAny_pyIter_zip hz ?_)
  refine wpAny_bind (wpAny_holding ?_)
  unfold Builtin.List.listLengthHint
  refine wpAny_bind (wpAny_specialOf hT zip_no_len ?_)
  show wpAny _ A.in1 (specialOf (Value.ref z) (Str.ofString "__length_hint__") >>= _) _ _ _
  refine wpAny_bind (wpAny_specialOf hT zip_no_hint ?_)
  refine wpAny_pure ?_
  show wpAny _ A.in1 (rule "list.extend.makes-room" >>= fun _ => Builtin.List.listTouch (.ref S) >>= fun _ =>
    again (.builtin "list.extend.loop" ⟨[.ref S, .ref z, res], []⟩)) _ _ _
  refine wpAny_bind (wpAny_rule ?_)
  refine wpAny_bind ?_
  show wpAny _ A.in1 (updateSeq S (·.push .none) >>= fun _ => updateSeq S (·.pop)) _ _ _
  refine wpAny_bind (wpAny_updateSeq hS rfl ?_)
  have hS₂ := Heap.get?_update_self (Obj.mapSeq (·.push Value.none)) hS rfl
  refine wpAny_updateSeq (hz := by seq_fits) hS₂ rfl ?_
  have hS₃ := Heap.get?_update_self (Obj.mapSeq (·.pop)) hS₂ rfl
  have oth : ∀ b o, b ≠ S → s.heap.get? b = some o → ((s.heap.update S (Obj.mapSeq (·.push Value.none))).update S (Obj.mapSeq (·.pop))).get? b = some o :=
    fun b o hb e => (Heap.get?_update_other _ _ (Ne.symm hb)).trans ((Heap.get?_update_other _ _ (Ne.symm hb)).trans e)
  exact wpAny_pure ⟨plainId_quiet PySem.F.plain_extend_loop _, z3_loop (s := s) (h₁ := s.heap) hh ZS D L nx ny nu hn res hR n 0 _ _ _ #[] [] (Nat.sub_zero _) (Nat.zero_le _) (hst.keep oth L) (fun b o b0 _ _ _ _ _ e => oth b o b0 e) hS₃ rfl rfl
    ⟨List.Pairwise.nil, (fun _ ha => nomatch ha), (fun j a hj => by simp at hj)⟩⟩
theorem z3_init {R : Result → Shared → Prop} (hh : A.handled = none) (ZS : ZipSep3 z TI TO i1 i2 i3 [i1, l1] [i2, l2] [i3, l3]) (D : Z3 z TI TO i1 i2 i3 l1 l2 l3) (L : ZLow S z TI TO i1 i2 i3 l1 l2 l3) (nx : xs.size = n) (ny : ys.size = n) (nu : us.size = n) (hn : n ≤ sizeLine)
    (hz : IsZip s.heap z TI TO .none) (hst : Z3St S z TI TO i1 i2 i3 l1 l2 l3 xs ys us s.heap 0) (hS : s.heap.get? S = some { cls := .type "list", data := .seq #[] })
    (hR : ∀ h' tk acc c as, (∀ b o, b ≠ S → b ≠ z → b ≠ TO → b ≠ i1 → b ≠ i2 → b ≠ i3 → s.heap.get? b = some o → h'.get? b = some o) → h'.get? S = some { cls := .type "list", dict := none, data := .seq acc c, slots := #[] } → as.length = n → G3 xs ys us S h' as →
      acc.toList = as.map Value.ref → R (.ok (.ret .none)) { s with heap := h', toks := tk }) :
    wpAny (model prog w) A.in1 (Builtin.«list.__init__» ⟨[.ref S, .ref z], []⟩)
      (fun fin s' => match fin with | .done f => R (.ok f) s' | .again c' => c'.quiet = true ∧ codeAny (model prog w) A c' R s') (fun e s' => R (.error e) s') s := by
  show wpAny _ _ (do let old ← Builtin.List.listItems (.ref S); Builtin.List.listUpdate (.ref S) (fun _ => #[]); letGo old.toList.reverse; Builtin.List.listExtendWith (.ref S) (.ref z) .none) _ _ s
  refine wpAny_bind ?_
  unfold Builtin.List.listItems
  refine wpAny_bind (wpAny_seqItems hS rfl (wpAny_pure ?_))
  show wpAny _ _ (updateSeq S (fun _ => #[]) >>= fun _ => letGo (#[] : Array Value).toList.reverse >>= fun _ => Builtin.List.listExtendWith (.ref S) (.ref z) .none) _ _ s
  refine wpAny_bind (wpAny_updateSeq hS rfl ?_)
  have hS₂ := Heap.get?_update_self (Obj.mapSeq (fun _ => (#[] : Array Value))) hS rfl
  have oth : ∀ b o, b ≠ S → s.heap.get? b = some o → (s.heap.update S (Obj.mapSeq (fun _ => (#[] : Array Value)))).get? b = some o :=
    fun b o hb e => (Heap.get?_update_other _ _ (Ne.symm hb)).trans e
  refine wpAny_bind (wpAny_letGo ?_)
  refine z3_extend hh ZS D L nx ny nu hn .none _ (oth _ _ (Nat.ne_of_lt L.z) hz) (hst.keep oth L) hS₂ (fun h' tk acc c as hk hS' hl hG hacc => ?_)
  exact hR h' tk acc c as (fun b o b0 b1 b2 b3 b4 b5 e => hk b o b0 b1 b2 b3 b4 b5 (oth b o b0 e)) hS' hl hG hacc
theorem z3_call {Q : Value → Shared → Prop} (hh : A.handled = none) (ZS : ZipSep3 z TI TO i1 i2 i3 [i1, l1] [i2, l2] [i3, l3]) (D : Z3 z TI TO i1 i2 i3 l1 l2 l3) (L : ZLow s.heap.objs.size z TI TO i1 i2 i3 l1 l2 l3) (nx : xs.size = n) (ny : ys.size = n) (nu : us.size = n) (hn : n ≤ sizeLine)
    (hz : IsZip s.heap z TI TO .none) (hst : Z3St s.heap.objs.size z TI TO i1 i2 i3 l1 l2 l3 xs ys us s.heap 0)
    (hQ : ∀ h' tk acc c as, (∀ b o, b ≠ z → b ≠ TO → b ≠ i1 → b ≠ i2 → b ≠ i3 → s.heap.get? b = some o → h'.get? b = some o) → h'.get? s.heap.objs.size = some { cls := .type "list", dict := none, data := .seq acc c, slots := #[] } → as.length = n → G3 xs ys us s.heap.objs.size h' as →
      acc.toList = as.map Value.ref → Q (.ref s.heap.objs.size) { s with heap := h', toks := tk }) :
    wpAny (model prog w) A (call (.type "list") [.ref z]) Q E s := by
  refine callType_codes (Q₁ := fun obj s₁ => obj = .ref s.heap.objs.size ∧ s₁ = { s with heap := s.heap.push { cls := .type "list", data := .seq #[] } }) PySem.F.called_list (PySem.F.typeCall_list_1 _) PySem.F.entry_list_init
    (code_list_new _ ⟨rfl, rfl⟩) fun obj s₁ h₁ => ?_
  obtain ⟨rfl, rfl⟩ := h₁
  have hS : (s.heap.push { cls := .type "list", data := .seq #[] }).get? s.heap.objs.size = some { cls := .type "list", data := .seq #[] } := Heap.get?_push_size _ rfl
  have up : ∀ b o, s.heap.get? b = some o → (s.heap.push { cls := .type "list", data := .seq #[] }).get? b = some o := fun b o e => Heap.get?_push_of_some _ e
  refine ⟨⟨_, hS, rfl⟩, PySem.F.args_list_init_2 _ _, z3_init (A := A.in1) hh ZS D L nx ny nu hn (up _ _ hz) (hst.keep (fun b o _ e => up b o e) L) hS (fun h' tk acc c as hk hS' hl hG hacc => ?_)⟩
  exact ⟨rfl, hQ h' tk acc c as (fun b o b1 b2 b3 b4 b5 e => hk b o (Nat.ne_of_lt (Heap.lt_size e)) b1 b2 b3 b4 b5 (up b o e)) hS' hl hG hacc⟩
end
end PySem.W
namespace LiI
open PySem PySem.Spec PyProof.Rows L2
def putT3 : Hp → List Addr → List (V × V × V) → Hp
  | H, a :: as, q :: qs => putT3 (upd H a (.tup [q.1, q.2.1, q.2.2])) as qs
  | H, _, _ => H
theorem putT3_off {b : Addr} : ∀ (as : List Addr) (qs : List (V × V × V)) (H : Hp), b ∉ as → putT3 H as qs b = H b
  | [], _, _, _ => rfl
  | _ :: _, [], _, _ => rfl
  | a :: as, q :: qs, H, h => by
    show putT3 (upd H a (.tup [q.1, q.2.1, q.2.2])) as qs b = H b
    rw [putT3_off as qs _ (fun z => h (List.mem_cons_of_mem _ z)), upd_ne (fun z => h (by rw [z]; exact List.mem_cons_self))]
theorem putT3_at : ∀ (as : List Addr) (qs : List (V × V × V)) (H : Hp), as.Nodup → ∀ (j : Nat) (a : Addr) (q : V × V × V), as[j]? = some a → qs[j]? = some q → putT3 H as qs a = some (.tup [q.1, q.2.1, q.2.2])
  | [], _, _, _, _, _, _, h, _ => by simp at h
  | _ :: _, [], _, _, _, _, _, _, h => by simp at h
  | a :: as, q :: qs, H, hn, j, b, r, h1, h2 => by
    have hn' := List.nodup_cons.mp hn
    cases j with
    | zero =>
      cases h1
      cases h2
      show putT3 (upd H a (.tup [q.1, q.2.1, q.2.2])) as qs a = _
      rw [putT3_off as qs _ hn'.1, upd_same]
    | succ j => exact putT3_at as qs _ hn'.2 j b r (by simpa using h1) (by simpa using h2)
def tListZ3 (K : PySem.W.Frag) (t : TA) : TE := fun σ H Q => t σ H fun vs H1 => ∃ a b c xs ys zs, vs = [.ref a, .ref b, .ref c] ∧ SqL K H1 a xs ∧ SqL K H1 b ys ∧ SqL K H1 c zs ∧ xs.length = ys.length ∧ xs.length = zs.length ∧
  ∀ (p : Addr) (ts : List Addr), H1 p = none → (∀ t ∈ ts, H1 t = none) → p ∉ ts → ts.Nodup → ts.length = xs.length → Q (.ref p) (putT3 (upd H1 p (.lst (ts.map V.ref))) ts (xs.zip (ys.zip zs)))
section
variable {X : Cx}
theorem triples_laid {pins : List (Addr × Obj)} {σ : L2.St} {H : Hp} {s : Shared} {h' : Heap} {tk : Nat} {xs ys zs : List V} {ux uy uz : List Value} {acc : Array Value} {c : Nat} {p : Addr} {as : List Addr} (I : Inv X pins σ H s) (hp : s.heap.objs.size ≤ p) (hz : xs.length ≤ sizeLine) (l2 : xs.length = ys.length) (l3 : xs.length = zs.length) (rx : Vals xs ux) (ry : Vals ys uy) (rz : Vals zs uz)
    (hk : ∀ b o, s.heap.get? b = some o → h'.get? b = some o) (hS : h'.get? p = some { cls := .type "list", dict := none, data := .seq acc c, slots := #[] }) (hl : as.length = xs.length) (hG : PySem.W.G3 ux.toArray uy.toArray uz.toArray p h' as) (hacc : acc.toList = as.map Value.ref) :
    H p = none ∧ (∀ t ∈ as, H t = none) ∧ p ∉ as ∧ as.Nodup ∧ Inv X pins σ (putT3 (upd H p (.lst (as.map V.ref))) as (xs.zip (ys.zip zs))) { s with heap := h', toks := tk } := by
  have hSn : p ∉ as := fun z => Nat.lt_irrefl _ (hG.above _ z)
  have nd : as.Nodup := List.Pairwise.imp (fun {a b} (h : a < b) => Nat.ne_of_lt h) hG.rise
  have new : ∀ t ∈ as, H t = none := fun t ht => I.hok.fresh (Nat.le_trans hp (Nat.le_of_lt (hG.above t ht)))
  have newS : H p = none := I.hok.fresh hp
  have atP := putT3_at as (xs.zip (ys.zip zs)) (upd H p (.lst (as.map V.ref))) nd
  have off : ∀ b, b ∉ as → b ≠ p → putT3 (upd H p (.lst (as.map V.ref))) as (xs.zip (ys.zip zs)) b = H b := fun b h1 h2 => by rw [putT3_off as _ _ h1, upd_ne h2]
  have low : ∀ b o, s.heap.get? b = some o → b ∉ as ∧ b ≠ p := fun b o e => ⟨fun z => absurd (Heap.lt_size e) (Nat.not_lt.mpr (Nat.le_trans hp (Nat.le_of_lt (hG.above b z)))), Nat.ne_of_lt (Nat.lt_of_lt_of_le (Heap.lt_size e) hp)⟩
  have kp : ∀ b u, H b = some u → (putT3 (upd H p (.lst (as.map V.ref))) as (xs.zip (ys.zip zs))) b = some u := fun b u e => by
    rw [off b (fun z => by rw [new b z] at e; cases e) (fun z => by rw [z, newS] at e; cases e)]
    exact e
  have eS : putT3 (upd H p (.lst (as.map V.ref))) as (xs.zip (ys.zip zs)) p = some (.lst (as.map V.ref)) := by rw [putT3_off as _ _ hSn, upd_same]
  refine ⟨newS, new, hSn, nd, ?_⟩
  refine I.call' (ch := []) rfl ⟨fun b o q _ _ _ => hk b o q, fun b o q _ _ _ => ⟨o.slots, hk b o q⟩, fun b o q n _ => ?_, fun b o q _ => ⟨o, hk b o q⟩, fun b xs q => kp b _ q, fun b o u q => kp b _ q, fun b ps q => ⟨#[], by rw [kp b _ q]; simp⟩⟩ (fun b u q => ?_) I.bare fun b z => by simp at z
  · obtain ⟨z1, z2⟩ := low b o q
    rw [off b z1 z2]
    exact n
  · by_cases hb : b ∈ as
    · obtain ⟨j, hj⟩ := List.mem_iff_getElem?.mp hb
      obtain ⟨x, y, w, e1, e2, e3, e4⟩ := hG.tups j b hj
      have hjl : j < xs.length := by
        have : j < as.length := by
          rcases Nat.lt_or_ge j as.length with g | g
          · exact g
          · rw [List.getElem?_eq_none g] at hj; cases hj
        omega
      have e1 : ux[j]? = some x := by simpa using e1
      have e2 : uy[j]? = some y := by simpa using e2
      have e3 : uz[j]? = some w := by simpa using e3
      have vx : xs[j]? = some xs[j] := List.getElem?_eq_getElem hjl
      have vy : ys[j]? = some ys[j] := List.getElem?_eq_getElem (by omega)
      have vz : zs[j]? = some zs[j] := List.getElem?_eq_getElem (by omega)
      obtain ⟨x', hx', rx'⟩ := rx.get vx
      obtain ⟨y', hy', ry'⟩ := ry.get vy
      obtain ⟨w', hw', rw''⟩ := rz.get vz
      rw [e1] at hx'
      rw [e2] at hy'
      rw [e3] at hw'
      cases hx'
      cases hy'
      cases hw'
      have hq : (xs.zip (ys.zip zs))[j]? = some (xs[j], ys[j], zs[j]) := by
        rw [List.getElem?_zip_eq_some, List.getElem?_zip_eq_some]
        exact ⟨vx, vy, vz⟩
      rw [atP j b _ hj hq] at q
      cases q
      exact ⟨by show 3 ≤ sizeLine; decide, [x, y, w], .cons rx' (.cons ry' (.cons rw'' .nil)), ⟨_, e4, rfl, _, rfl⟩⟩
    · by_cases hb2 : b = p
      · rw [hb2] at q ⊢
        rw [eS] at q
        cases q
        refine ⟨by rw [List.length_map]; omega, acc.toList, c, by rw [hacc]; exact vals_refs as, ?_⟩
        rw [Array.toArray_toList]
        exact hS
      · rw [off b hb hb2] at q
        exact (I.hok b u q).stay (fun d v _ y => hk d v y) (fun d y => kp d _ y) fun d xs y => kp d _ y
theorem pe_listZ3 {e e2 e3 : Expr} {ta : TA} {p q pos pos2 : Pos} (hc : X.calm = true) (hgl : Gl X "list") (hml : X.mg "list" = none) (hg : Gl X "zip") (hm : X.mg "zip" = none) (ha : PA X [e, e2, e3] ta)
    (hs : starEach [e, e2, e3] X.env = (false, eval e X.env) :: starEach [e2, e3] X.env := by rfl) (hpl : (backTo pos2 (starEach [e2, e3] X.env)).any (·.1) = false := by rfl)
    (na : starEach [.Call (.Name "zip" q) [e, e2, e3] [] pos2] X.env = (false, eval (.Call (.Name "zip" q) [e, e2, e3] [] pos2) X.env) :: starEach [] X.env := by rfl) :
    PE X (.Call (.Name "list" p) [.Call (.Name "zip" q) [e, e2, e3] [] pos2] [] pos) (tListZ3 X.K ta) := by
  refine ⟨fun pins s σ H Q I h => ?_⟩
  refine Call_ (ld_blt I hgl hml boot_list (PyProof.Rows.callWith_type1 (args_cons (Call_ (ld_blt I hg hm PyProof.Rows.boot_zip (PyProof.Rows.callWith_type1 (thn (ha.run pos2 pins s σ H _ I h) fun us s1 ⟨vs, H1, I1, r1, q1⟩ => ?_) hs hpl))) na) na))
  obtain ⟨a, b, c, xs, ys, zs, ex, hqx, hqy, hqz, el2, el3, q⟩ := q1
  subst ex
  cases r1 with
  | cons ra r1 =>
  cases r1 with
  | cons rb r1 =>
  cases r1 with
  | cons rc r1 =>
  cases r1
  cases ra
  cases rb
  cases rc
  obtain ⟨its, rv, p1, hz1, la⟩ := Pl.invK (k := true) I1 hqx
  obtain ⟨its2, rv2, p2, _, lb⟩ := Pl.invK (k := true) I1 hqy
  obtain ⟨its3, rv3, p3, _, lc⟩ := Pl.invK (k := true) I1 hqz
  have n1 := rv.length
  have n2 := rv2.length
  have n3 := rv3.length
  refine zip_begins3 (Pl.beginsK true a its.toArray) (Pl.beginsK true b its2.toArray) (Pl.beginsK true c its3.toArray) p1 p2 p3 fun h' hz hTI hTO h1 h2 h3 hsz hk => args_nil ?_
  have sp : ZipSep3 (s1.heap.objs.size + 5) (s1.heap.objs.size + 3) (s1.heap.objs.size + 4) s1.heap.objs.size (s1.heap.objs.size + 1) (s1.heap.objs.size + 2) [s1.heap.objs.size, a] [s1.heap.objs.size + 1, b] [s1.heap.objs.size + 2, c] :=
    zip_sep3 (fp1 := [a]) (fp2 := [b]) (fp3 := [c]) (fun d hd => by rw [List.mem_singleton.mp hd]; exact la) (fun d hd => by rw [List.mem_singleton.mp hd]; exact lb) (fun d hd => by rw [List.mem_singleton.mp hd]; exact lc)
  generalize hN : s1.heap.objs.size = N at *
  have D : PySem.W.Z3 (N + 5) (N + 3) (N + 4) N (N + 1) (N + 2) a b c := by
    constructor <;> (intro z; revert z; simp only [Addr] at *; omega)
  have L : PySem.W.ZLow h'.objs.size (N + 5) (N + 3) (N + 4) N (N + 1) (N + 2) a b c := by
    rw [hsz]
    constructor <;> (simp only [Addr] at *; omega)
  have st : PySem.W.Z3St h'.objs.size (N + 5) (N + 3) (N + 4) N (N + 1) (N + 2) a b c its.toArray its2.toArray its3.toArray h' 0 :=
    ⟨hTI, Pl.itK_new (k := true) h1, Pl.itK_new (k := true) h2, Pl.itK_new (k := true) h3, PySem.W.isList_at p1 fun o e => hk _ o e, PySem.W.isList_at p2 fun o e => hk _ o e, PySem.W.isList_at p3 fun o e => hk _ o e, .inl ⟨rfl, hz, _, _, _, hTO⟩⟩
  refine PySem.W.z3_call (s := { s1 with heap := h' }) (n := xs.length) (I1.ok.hd hc) sp D L (by rw [List.size_toArray]; omega) (by rw [List.size_toArray]; omega) (by rw [List.size_toArray]; omega) hz1 hz st fun h2' tk acc cc as hk2 hS hl hG hacc => ?_
  have keep : ∀ b o, s1.heap.get? b = some o → h2'.get? b = some o := fun b o e => by
    have lt : b < N := by rw [← hN]; exact Heap.lt_size e
    refine hk2 b o ?_ ?_ ?_ ?_ ?_ (hk b o e) <;> (intro z; revert z lt; simp only [Addr] at *; omega)
  obtain ⟨k1, k2, k3, k4, J⟩ := triples_laid (tk := tk) I1 (p := h'.objs.size) (by rw [hN, hsz]; omega) hz1 el2 el3 rv rv2 rv3 keep hS hl hG hacc
  exact ⟨.ref _, _, J, rfl, q _ as k1 k2 k3 k4 hl⟩
end
end LiI
namespace Pl
open PySem PySem.Spec PyProof.Rows L2 LiI
variable [TJ]
def tri (xs ys zs : List D) : List D := (xs.zip (ys.zip zs)).map fun q => .tup [q.1, q.2.1, q.2.2]
theorem sim_put {K : PySem.W.Frag} {G : Hp} {σ : L2.St} {ρ : Ro} : ∀ (ts : List Addr) (qs : List (V × V × V)) (F H : Hp), Sim K G F H σ ρ → (∀ t ∈ ts, H t = none) → ts.Nodup → Up G F (putT3 F ts qs) ∧ Sim K G (putT3 F ts qs) (putT3 H ts qs) σ ρ
  | [], _, F, H, S, _, _ => ⟨.refl _ _, S⟩
  | _ :: _, [], F, H, S, _, _ => ⟨.refl _ _, S⟩
  | t :: ts, q :: qs, F, H, S, hf, hn => by
    have ht := hf t List.mem_cons_self
    have hn' := List.nodup_cons.mp hn
    obtain ⟨u, S2⟩ := sim_put ts qs (upd F t (.tup [q.1, q.2.1, q.2.2])) (upd H t (.tup [q.1, q.2.1, q.2.2])) (S.new ht) (fun x hx => by
      rw [upd_ne (fun e => hn'.1 (by rw [← e]; exact hx))]
      exact hf x (List.mem_cons_of_mem _ hx)) hn'.2
    exact ⟨(S.upNew ht).trans u, S2⟩
end Pl
namespace Pl
open PySem PySem.Spec PyProof.Rows L2
variable [TJ]
def NEl (K : PySem.W.Frag) (G F H : Hp) (ρ : Ro) (p : Addr) (xs : List D) : Prop := F p = none ∧ G p = none ∧ NotOwn ρ p ∧ ∃ us, H p = some (.lst us) ∧ Reps K F us xs
structure Nst (K : PySem.W.Frag) (G F H : Hp) (σ : L2.St) (ρ : Ro) (i : Nat) (q : Addr) (es : List (Addr × List D)) : Prop where
  sl : σ[i]? = some (some (.ref q))
  z : ρ[i]? = some none
  nf : F q = none
  ng : G q = none
  no : NotOwn ρ q
  hq : H q = some (.lst (es.map fun e => V.ref e.1))
  el : ∀ e ∈ es, NEl K G F H ρ e.1 e.2
  nd : (q :: es.map (·.1)).Nodup
open Classical in
noncomputable def plusG (G H : Hp) (as : List Addr) : Hp := fun b => if b ∈ as then H b else G b
theorem plus_in {G H : Hp} {as : List Addr} {b : Addr} (h : b ∈ as) : plusG G H as b = H b := by unfold plusG; rw [if_pos h]
theorem plus_out {G H : Hp} {as : List Addr} {b : Addr} (h : b ∉ as) : plusG G H as b = G b := by unfold plusG; rw [if_neg h]
section
variable {K : PySem.W.Frag} {G F H F1 H1 : Hp} {σ : L2.St} {ρ ρ1 : Ro} {i : Nat} {q : Addr} {es : List (Addr × List D)}
theorem Sim.rebase (S : Sim K G F H σ ρ) (hF : Same F H1) (hG : SameJ G F H1) (ho : ∀ b, isOwn ρ b ∨ InBox ρ b → H1 b = H b) : Sim K G F H1 σ ρ :=
  ⟨hF, hG, S.len, S.val, fun i a xs e => by
    obtain ⟨h1, h2, h3, vs, h4, h5⟩ := S.own i a xs e
    exact ⟨h1, h2, h3, vs, by rw [ho a (.inl ⟨i, xs, e⟩)]; exact h4, h5⟩, S.ne, S.bx.heap (.refl _) fun p m => ⟨(S.bx.free m).1, (S.bx.free m).2.1, ho p (.inr m)⟩⟩
abbrev adrs (q : Addr) (es : List (Addr × List D)) : List Addr := q :: es.map (·.1)
theorem Nst.free (N : Nst K G F H σ ρ i q es) {b : Addr} (h : b ∈ adrs q es) : F b = none ∧ G b = none ∧ NotOwn ρ b ∧ ∃ us, H b = some (.lst us) := by
  rcases List.mem_cons.mp h with e | h
  · subst e; exact ⟨N.nf, N.ng, N.no, _, N.hq⟩
  · obtain ⟨e, he, rfl⟩ := List.mem_map.mp h
    obtain ⟨h1, h2, h3, us, h4, _⟩ := N.el e he
    exact ⟨h1, h2, h3, us, h4⟩
theorem Nst.same {A : Hp} (N : Nst K G F H σ ρ i q es) (h : ∀ b ∈ adrs q es, A b = none) : Same A (plusG A H (adrs q es)) := fun b o e => by
  rw [plus_out fun z => by rw [h b z] at e; cases e]; exact e
theorem Nst.guard (S : Sim K G F H σ ρ) (N : Nst K G F H σ ρ i q es) : Sim K (plusG G H (adrs q es)) F H σ ρ :=
  ⟨S.hF, ⟨fun b o e => by
    by_cases h : b ∈ adrs q es
    · rw [plus_in h] at e; exact e
    · rw [plus_out h] at e; exact S.hG b o e, TJ.frame S.hG.tj fun b o e => by
    by_cases h : b ∈ adrs q es
    · obtain ⟨_, _, _, us, h4⟩ := N.free h
      exact .inr ⟨_, h4, trivial⟩
    · rw [plus_out h] at e; exact .inl e⟩, S.len, S.val, fun j a xs e => by
    obtain ⟨h1, h2, h3, h4⟩ := S.own j a xs e
    exact ⟨h1, h2, by rw [plus_out fun z => (N.free z).2.2.1.1 j xs e]; exact h3, h4⟩, S.ne, S.bx.heap (.refl _) fun p m => ⟨(S.bx.free m).1, by rw [plus_out fun z => (N.free z).2.2.1.2 m]; exact (S.bx.free m).2.1, rfl⟩⟩
theorem Nst.back (N : Nst K G F H σ ρ i q es) (u : Up (plusG G H (adrs q es)) F F1) (S1 : Sim K (plusG G H (adrs q es)) F1 H1 σ ρ1) (hz : ρ1[i]? = some none) : Up G F F1 ∧ Sim K G F1 H1 σ ρ1 ∧ Nst K G F1 H1 σ ρ1 i q es := by
  have sm : Same G (plusG G H (adrs q es)) := N.same fun b h => (N.free h).2.1
  have hH : ∀ b ∈ adrs q es, H1 b = H b := fun b h => by
    obtain ⟨_, _, _, us, h4⟩ := N.free h
    rw [h4]; exact S1.hG b _ (by rw [plus_in h]; exact h4)
  have hF1 : ∀ b ∈ adrs q es, F1 b = none := fun b h => by
    obtain ⟨h1, _, _, us, h4⟩ := N.free h
    exact u.isNone h1 (by rw [plus_in h]; exact h4)
  have hn : ∀ b ∈ adrs q es, NotOwn ρ1 b := fun b h => by
    obtain ⟨_, _, _, us, h4⟩ := N.free h
    exact ⟨fun j ys e => (by
      have := (S1.own j b ys e).2.2.1
      rw [plus_in h, h4] at this; cases this), S1.bx.notG (by rw [plus_in h]; exact h4)⟩
  have mq : q ∈ adrs q es := by simp
  have me : ∀ e ∈ es, e.1 ∈ adrs q es := fun e he => List.mem_cons_of_mem _ (List.mem_map.mpr ⟨e, he, rfl⟩)
  refine ⟨u.less sm, ⟨S1.hF, S1.hG.less sm, S1.len, S1.val, fun j a xs e => ?_, S1.ne, S1.bx.unguard sm⟩, ⟨N.sl, hz, hF1 q mq, N.ng, hn q mq, by rw [hH q mq]; exact N.hq, fun e he => ?_, N.nd⟩⟩
  · obtain ⟨h1, h2, h3, h4⟩ := S1.own j a xs e
    exact ⟨h1, h2, sm.free h3, h4⟩
  · obtain ⟨h1, h2, h3, us, h4, h5⟩ := N.el e he
    exact ⟨hF1 _ (me e he), h2, hn _ (me e he), us, by rw [hH _ (me e he)]; exact h4, h5.mono u.ex⟩
theorem Nst.mut (S : Sim K G F H σ ρ) (N : Nst K G F H σ ρ i q es) {j : Nat} {e : Addr × List D} {vs : List V} {ys : List D} (he : es[j]? = some e) (r : Reps K F vs ys) :
    Sim K G F (upd H e.1 (.lst vs)) σ ρ ∧ Nst K G F (upd H e.1 (.lst vs)) σ ρ i q (es.set j (e.1, ys)) := by
  have hm : e ∈ es := List.mem_of_getElem? he
  obtain ⟨h1, h2, h3, us, h4, h5⟩ := N.el e hm
  have hj : j < es.length := by
    rcases Nat.lt_or_ge j es.length with h | h
    · exact h
    · rw [List.getElem?_eq_none h] at he; cases he
  have nq : q ≠ e.1 := fun z => (List.nodup_cons.mp N.nd).1 (z ▸ List.mem_map.mpr ⟨e, hm, rfl⟩)
  have em : (es.set j (e.1, ys)).map (fun x => x.1) = es.map (fun x => x.1) := by
    rw [List.map_set]
    refine List.ext_getElem? fun k => ?_
    by_cases hk : j = k
    · subst hk
      rw [List.getElem?_set_self (by rw [List.length_map]; exact hj), List.getElem?_map, he]; rfl
    · rw [List.getElem?_set_ne hk]
  refine ⟨S.rebase (fun b o z => ?_) (S.hG.mut h2 h4) (fun b hb => ?_), ⟨N.sl, N.z, N.nf, N.ng, N.no, ?_, fun x hx => ?_, by rw [em]; exact N.nd⟩⟩
  · rw [upd_ne fun y => by subst y; rw [h1] at z; cases z]; exact S.hF b o z
  · rcases hb with ⟨k, xs, z⟩ | hb
    · rw [upd_ne fun y => by subst y; exact h3.1 k xs z]
    · rw [upd_ne fun y => by subst y; exact h3.2 hb]
  · rw [upd_ne nq, N.hq]
    have : (es.set j (e.1, ys)).map (fun x => V.ref x.1) = es.map (fun x => V.ref x.1) := by
      have := congrArg (List.map V.ref) em
      rw [List.map_map, List.map_map] at this; exact this
    rw [this]
  · rcases List.mem_or_eq_of_mem_set hx with hx' | hx'
    · by_cases hxe : x.1 = e.1
      ·
        obtain ⟨k, hk⟩ := List.getElem?_of_mem hx
        by_cases hjk : j = k
        · subst hjk
          rw [List.getElem?_set_self hj] at hk
          cases hk
          exact ⟨h1, h2, h3, vs, upd_same, r⟩
        · rw [List.getElem?_set_ne hjk] at hk
          have nd := (List.nodup_cons.mp N.nd).2
          have a1 : (es.map (·.1))[j]? = some e.1 := by rw [List.getElem?_map, he]; rfl
          have a2 : (es.map (·.1))[k]? = some x.1 := by rw [List.getElem?_map, hk]; rfl
          have hkl : k < (es.map (·.1)).length := by
            rcases Nat.lt_or_ge k (es.map (·.1)).length with h | h
            · exact h
            · rw [List.getElem?_eq_none h] at a2; cases a2
          exact absurd ((List.getElem?_inj (by rw [List.length_map]; exact hj) nd).mp (by rw [a1, a2, hxe])) hjk
      · obtain ⟨g1, g2, g3, ws, g4, g5⟩ := N.el x hx'
        exact ⟨g1, g2, g3, ws, by rw [upd_ne hxe]; exact g4, g5⟩
    · subst hx'
      exact ⟨h1, h2, h3, vs, upd_same, r⟩
theorem reps_refs {A : Hp} : ∀ {es : List (Addr × List D)}, (∀ e ∈ es, ∃ us, A e.1 = some (.lst us) ∧ Reps K A us e.2) → Reps K A (es.map fun e => V.ref e.1) ((es.map (·.2)).map D.lst)
  | [], _ => .nil
  | e :: es, h => by
    obtain ⟨us, h1, h2⟩ := h e (by simp)
    exact .cons (.lst h1 h2) (reps_refs fun x hx => h x (by simp [hx]))
theorem Nst.look (S : Sim K G F H σ ρ) (N : Nst K G F H σ ρ i q es) : Up G F (plusG F H (adrs q es)) ∧ Sim K G (plusG F H (adrs q es)) H σ (ρ.set i (some (.val (.lst ((es.map (·.2)).map D.lst))))) := by
  have sm : Same F (plusG F H (adrs q es)) := N.same fun b h => (N.free h).1
  have hi : i < ρ.length := by
    rcases Nat.lt_or_ge i ρ.length with h | h
    · exact h
    · have := N.z; rw [List.getElem?_eq_none h] at this; cases this
  have mq : q ∈ adrs q es := by simp
  have me : ∀ e ∈ es, e.1 ∈ adrs q es := fun e he => List.mem_cons_of_mem _ (List.mem_map.mpr ⟨e, he, rfl⟩)
  have S1 : Sim K G (plusG F H (adrs q es)) H σ ρ := ⟨fun b o e => by
      by_cases h : b ∈ adrs q es
      · rw [plus_in h] at e; exact e
      · rw [plus_out h] at e; exact S.hF b o e, S.hG.froz fun b o e => by
      by_cases h : b ∈ adrs q es
      · obtain ⟨_, _, _, us, h4⟩ := N.free h
        exact .inr ⟨us, h4⟩
      · rw [plus_out h] at e; exact .inl e, S.len, fun j d e => by
      obtain ⟨v, h1, h2⟩ := S.val j d e
      exact ⟨v, h1, h2.mono sm⟩, fun j a xs e => by
      obtain ⟨h1, h2, h3, vs, h4, h5⟩ := S.own j a xs e
      exact ⟨h1, by rw [plus_out fun z => (N.free z).2.2.1.1 j xs e]; exact h2, h3, vs, h4, h5.mono sm⟩, S.ne, S.bx.heap sm fun p m => ⟨by rw [plus_out fun z => (N.free z).2.2.1.2 m]; exact (S.bx.free m).1, (S.bx.free m).2.1, rfl⟩⟩
  refine ⟨⟨sm, fun b o e => ?_⟩, ?_⟩
  · by_cases h : b ∈ adrs q es
    · exact .inr (N.free h).2.1
    · rw [plus_out h] at e; exact .inl e
  · have S2 := S1.setVal i (v := .ref q) (d := .lst ((es.map (·.2)).map D.lst)) (.lst (by rw [plus_in mq]; exact N.hq) (reps_refs fun e he => by
      obtain ⟨h1, h2, h3, us, h4, h5⟩ := N.el e he
      exact ⟨us, by rw [plus_in (me e he)]; exact h4, h5.mono sm⟩))
    have : σ.set i (some (.ref q)) = σ := by
      refine List.ext_getElem? fun k => ?_
      by_cases hk : i = k
      · subst hk; rw [List.getElem?_set_self (by rw [S.len]; exact hi), N.sl]
      · rw [List.getElem?_set_ne hk]
    rw [this] at S2; exact S2
end
section
variable {X : Cx} {i : Nat} {st a rest : List Stmt} {t u : TS} {T : TSp} {U : List (List D) → TSp} {e : Expr} {es : List Expr} {te : TE} {ta : TA} {Te : TEp} {Tc : TCs} {pos : Pos}
theorem NEl.more {K : PySem.W.Frag} {G F H : Hp} {ρ : Ro} {p r : Addr} {xs : List D} {o : HO} {i : Nat} (h : NEl K G F H ρ p xs) (hr : H r = none) : NEl K G F (upd H r o) (ρ.set i none) p xs := by
  obtain ⟨h1, h2, h3, us, h4, h5⟩ := h
  refine ⟨h1, h2, ⟨fun j ys e => ?_, fun m => h3.2 (set_inbox (by simp) m)⟩, us, by rw [upd_ne (ne_of_none h4 hr)]; exact h4, h5⟩
  by_cases hj : i = j
  · subst hj
    by_cases hi : i < ρ.length
    · rw [List.getElem?_set_self hi] at e; cases e
    · rw [List.getElem?_eq_none (by simpa using hi)] at e; cases e
  · rw [List.getElem?_set_ne hj] at e; exact h3.1 j ys e
end
end Pl
namespace Pl
open PySem PySem.Spec PyProof.Rows L2
section
variable {X : Cx}
def rInT (K : PySem.W.Frag) : R2 := fun x y H Q => ∃ d ds, Dp K H x d ∧ Dp K H y (.tuple ds) ∧ SeqAt.shaped d = true ∧ SeqAt.shaped (.tuple ds) = true ∧ Q (.bl (ds.any fun z => PyData.eqv z d)) H
theorem op_inT (hu : X.A.units + 65 < cLine) : OpR X (compareOp .In) (rInT X.K) := by
  intro pins s σ H x y v u Q I rx ry h
  obtain ⟨d, ds, hd, he, sd, se, q⟩ := h
  obtain ⟨as, r1⟩ := Dp.reads I d x v hd rx
  obtain ⟨bs, r2⟩ := Dp.reads I (.tuple ds) y u he ry
  exact SeqAt.in_tuple_reads r2 r1 (SeqAt.canLay_of_shaped se) (SeqAt.canLay_of_shaped sd) (room_in_shaped sd hu) ⟨.bl _, H, I, rfl, q⟩
def fInT : F2 := fun x y Q => match y with
  | .tup ys => x.sh ∧ (D.tup ys).sh ∧ Q (.bl (ys.any fun z => z.eqv x))
  | _ => False
theorem cm_inT (hu : X.A.units + 65 < cLine) : Cmp X .In (rInT X.K) fInT := ⟨op_inT hu, fun F H x y dx dy Q R hs rx ry hf k => by
  cases ry with
  | @tup a vs ys h r =>
    obtain ⟨h1, h2, q⟩ := hf
    refine ⟨toPy dx, toPys ys, rx.dp hs h1, ?_, h1, ?_, ?_⟩
    · have := (Rep.tup h r).dp hs h2; rw [toPy] at this; exact this
    · unfold D.sh at h2; rw [toPy] at h2; exact h2
    · rw [any_toPys]; exact k _ _ _ _ (.old (.bl _)) q
  | _ => exact hf.elim⟩
end
end Pl
namespace Pl
open PySem PySem.Spec PyProof.Rows L2
variable [TJ]
section
variable {X : Cx} {e : Expr} {te : TE} {Te : TEp} {pos : Pos}
def pAugM (i : Nat) (Te : TEp) : TSp := fun P ρ => ∃ a : Int, ρ[i]? = some (some (.val (.int a))) ∧ Te ρ fun d ρ1 => match d with
  | .int b => CMul a b ∧ P.nx (ρ1.set i (some (.val (.int (a * b)))))
  | _ => False
theorem snd_augM {K : PySem.W.Frag} {i : Nat} (he : SndE K te Te) : SndS K (tAug i te (rI CMul fun i j => .int (i * j))) (pAugM i Te) := fun G F H σ ρ P D S h r => by
  obtain ⟨a, e0, h⟩ := h
  obtain ⟨v, h1, r1⟩ := S.val i _ e0
  cases r1
  refine ⟨_, h1, he G F H σ ρ _ _ S h fun w d F1 H1 ρ1 u1 S1 r2 q => ?_⟩
  cases r2 with
  | int b => exact ⟨a, b, rfl, rfl, q.1, r.nx F1 H1 _ _ u1 (S1.setVal i (.int _)) q.2⟩
  | _ => exact q.elim
theorem pps_augMul {i : Nat} {x : Str} {pos' : Pos} (hN : X.N.Nodup) (he : PPE X e te Te) (hi : X.N[i]? = some x := by rfl) (hx : Loc X.env.scope x := by first | exact Or.inl rfl | exact Or.inr rfl) (hf : X.fn x = true ∨ X.env.scope.names.lookup x = some .local := by first | exact .inl rfl | exact .inr rfl | assumption) :
    PPS X (.AugAssign (.Name x pos') .Mult e pos) (tAug i te (rI CMul fun i j => .int (i * j))) (pAugM i Te) := ⟨ps_aug hN hi hx he.pe iop_mul hf, snd_augM he.snd⟩
end
end Pl
namespace Pl
open PySem PySem.Spec PyProof.Rows L2
variable [TJ]
def lookD (ps : List (L2.Key × D)) (k : L2.Key) : Option D := (ps.find? fun p => decide (p.1 = k)).map (·.2)
def putD (ps : List (L2.Key × D)) (k : L2.Key) (y : D) : List (L2.Key × D) :=
  if (ps.any fun p => decide (p.1 = k)) = true then ps.map (fun p => if p.1 = k then (p.1, y) else p) else ps ++ [(k, y)]
section
variable {K : PySem.W.Frag} {F : Hp}
theorem KvR.len : ∀ {kvs : List (L2.Key × V)} {ps : List (L2.Key × D)}, KvR K F kvs ps → kvs.length = ps.length
  | [], [], _ => rfl
  | _ :: _, _ :: _, h => congrArg (· + 1) (KvR.len h.2.2)
  | [], _ :: _, h => h.elim
  | _ :: _, [], h => h.elim
theorem KvR.keys : ∀ {kvs : List (L2.Key × V)} {ps : List (L2.Key × D)}, KvR K F kvs ps → kvs.map (·.1) = ps.map (·.1)
  | [], [], _ => rfl
  | p :: _, q :: _, h => by
    show p.1 :: _ = q.1 :: _
    rw [h.1, KvR.keys h.2.2]
  | [], _ :: _, h => h.elim
  | _ :: _, [], h => h.elim
theorem KvR.look (k : L2.Key) : ∀ {kvs : List (L2.Key × V)} {ps : List (L2.Key × D)}, KvR K F kvs ps → (valV kvs k = none ∧ lookD ps k = none) ∨ ∃ v y, valV kvs k = some v ∧ lookD ps k = some y ∧ Rep K F v y
  | [], [], _ => .inl ⟨rfl, rfl⟩
  | p :: kvs, q :: ps, h => by
    by_cases e : p.1 = k
    · exact .inr ⟨p.2, q.2, valV_pos e, by unfold lookD; rw [List.find?_cons_of_pos (by rw [← h.1]; exact decide_eq_true e)]; rfl, h.2.1⟩
    · have e2 : lookD (q :: ps) k = lookD ps k := by unfold lookD; rw [List.find?_cons_of_neg (by rw [← h.1]; simp [e])]
      rw [valV_neg e, e2]
      exact KvR.look k h.2.2
  | [], _ :: _, h => h.elim
  | _ :: _, [], h => h.elim
theorem KvR.any (k : L2.Key) : ∀ {kvs : List (L2.Key × V)} {ps : List (L2.Key × D)}, KvR K F kvs ps → (kvs.any fun p => decide (p.1 = k)) = (ps.any fun p => decide (p.1 = k))
  | [], [], _ => rfl
  | p :: kvs, q :: ps, h => by rw [List.any_cons, List.any_cons, h.1, KvR.any k h.2.2]
  | [], _ :: _, h => h.elim
  | _ :: _, [], h => h.elim
theorem KvR.repl {k : L2.Key} {v : V} {y : D} (r : Rep K F v y) : ∀ {kvs : List (L2.Key × V)} {ps : List (L2.Key × D)}, KvR K F kvs ps → KvR K F (kvs.map fun p => if p.1 = k then (p.1, v) else p) (ps.map fun p => if p.1 = k then (p.1, y) else p)
  | [], [], _ => trivial
  | p :: kvs, q :: ps, h => by
    have t := KvR.repl (k := k) r h.2.2
    by_cases e : p.1 = k
    · have e2 : q.1 = k := h.1 ▸ e
      show KvR K F ((if p.1 = k then (p.1, v) else p) :: _) ((if q.1 = k then (q.1, y) else q) :: _)
      rw [if_pos e, if_pos e2]
      exact ⟨h.1, r, t⟩
    · have e2 : ¬ q.1 = k := fun z => e (h.1 ▸ z)
      show KvR K F ((if p.1 = k then (p.1, v) else p) :: _) ((if q.1 = k then (q.1, y) else q) :: _)
      rw [if_neg e, if_neg e2]
      exact ⟨h.1, h.2.1, t⟩
  | [], _ :: _, h => h.elim
  | _ :: _, [], h => h.elim
theorem KvR.snoc {k : L2.Key} {v : V} {y : D} (r : Rep K F v y) : ∀ {kvs : List (L2.Key × V)} {ps : List (L2.Key × D)}, KvR K F kvs ps → KvR K F (kvs ++ [(k, v)]) (ps ++ [(k, y)])
  | [], [], _ => ⟨rfl, r, trivial⟩
  | p :: kvs, q :: ps, h => ⟨h.1, h.2.1, KvR.snoc r h.2.2⟩
  | [], _ :: _, h => h.elim
  | _ :: _, [], h => h.elim
theorem KvR.put {k : L2.Key} {v : V} {y : D} (r : Rep K F v y) {kvs : List (L2.Key × V)} {ps : List (L2.Key × D)} (h : KvR K F kvs ps) : KvR K F (putK kvs k v) (putD ps k y) := by
  unfold putK putD
  rw [h.any k]
  split
  · exact h.repl r
  · exact h.snoc r
end
def Sh.pairs : Sh → Option (List (L2.Key × D))
  | .dic _ ps => some ps
  | .dicL _ _ _ ps => some ps
  | .ins .. => none
  | .gen _ => none
theorem Sh.At.look {K : PySem.W.Frag} {F H : Hp} {s : Sh} (h : s.At K F H) {ps : List (L2.Key × D)} (e : s.pairs = some ps) (k : L2.Key) : ∃ o, DGet H s.root (kV k) o ∧ o.isSome = (lookD ps k).isSome ∧ ∀ y, lookD ps k = some y → ∃ v, o = some v ∧ Rep K F v y := by
  have fin : ∀ (a : Addr) (kvs : List (L2.Key × V)), Rd H a (.dK kvs) → KvR K F kvs ps → ∃ o, DGet H a (kV k) o ∧ o.isSome = (lookD ps k).isSome ∧ ∀ y, lookD ps k = some y → ∃ v, o = some v ∧ Rep K F v y := fun a kvs rd r => by
    refine ⟨valV kvs k, .inl ⟨kvs, k, rd, rfl, rfl⟩, ?_⟩
    rcases r.look k with ⟨h1, h2⟩ | ⟨v, y, h1, h2, h3⟩
    · rw [h1, h2]; exact ⟨rfl, fun y z => by cases z⟩
    · rw [h1, h2]; exact ⟨rfl, fun y' z => by cases z; exact ⟨v, rfl, h3⟩⟩
  cases s with
  | dic a ps' =>
    cases e
    obtain ⟨kvs, h1, h2⟩ := h
    exact fin a kvs (.inl h1) h2
  | dicL a o kvs ps' =>
    cases e
    exact fin a kvs (.inr ⟨o, h.1⟩) h.2
  | ins a C dx fs => cases e
  | gen g => cases e
end Pl
namespace Pl
open PySem PySem.Spec PyProof.Rows L2
abbrev Fds := List (Str × Fd)
end Pl
namespace Pl
open PySem PySem.Spec PyProof.Rows L2
section
variable {K : PySem.W.Frag} {F H : Hp}
theorem FsR.look : ∀ {vs : List (Str × V)} {fs : Fds} (m : Str), FsR K F H vs fs → (vs.lookup m = none ∧ fs.lookup m = none) ∨ ∃ v d, vs.lookup m = some v ∧ fs.lookup m = some d ∧ d.At K F H v
  | [], [], m, _ => .inl ⟨rfl, rfl⟩
  | (x, v) :: vs, (y, d) :: fs, m, h => by
    obtain ⟨rfl, h2, h3⟩ := h
    rw [List.lookup_cons, List.lookup_cons]
    by_cases e : (m == x) = true
    · rw [e]; exact .inr ⟨v, d, rfl, rfl, h2⟩
    · have e : (m == x) = false := by simpa using e
      rw [e]; exact FsR.look m h3
  | [], _ :: _, _, h => h.elim
  | _ :: _, [], _, h => h.elim
end
end Pl
namespace Pl
open PySem PySem.Spec PyProof.Rows L2
def putFd (f : Str) (d : Fd) : Fds → Fds
  | [] => [(f, d)]
  | (g, x) :: r => if g = f then (g, d) :: r else (g, x) :: putFd f d r
section
variable {K : PySem.W.Frag} {F H H' : Hp}
theorem FsR.put {f : Str} {v : V} {d : Fd} (hd : d.At K F H v) : ∀ {vs : List (Str × V)} {fs : Fds}, FsR K F H vs fs → FsR K F H (putF f v vs) (putFd f d fs)
  | [], [], _ => ⟨rfl, hd, trivial⟩
  | (x, w) :: vs, (g, y) :: fs, h => by
    obtain ⟨rfl, h2, h3⟩ := h
    unfold putF putFd
    by_cases e : x = f
    · rw [if_pos e, if_pos e]; exact ⟨rfl, hd, h3⟩
    · rw [if_neg e, if_neg e]; exact ⟨rfl, h2, FsR.put hd h3⟩
  | [], _ :: _, h => h.elim
  | _ :: _, [], h => h.elim
theorem FsR.len : ∀ {vs : List (Str × V)} {fs : Fds}, FsR K F H vs fs → vs.length = fs.length
  | [], [], _ => rfl
  | _ :: _, _ :: _, h => congrArg (· + 1) (FsR.len h.2.2)
  | [], _ :: _, h => h.elim
  | _ :: _, [], h => h.elim
end
end Pl
namespace Pl
open PySem PySem.Spec PyProof.Rows L2
section
variable [TJ] {K : PySem.W.Frag} {G F H H' : Hp} {σ : L2.St} {ρ : Ro} {i : Nat}
theorem Sim.mutBoxN (S : Sim K G F H σ ρ) {s s' : Sh} (e : ρ[i]? = some (some (.box s))) (hr : s'.root = s.root) (hf : ∀ p ∈ s'.foot, p ∈ s.foot ∨ (F p = none ∧ G p = none ∧ NotOwn ρ p)) (ho : ∀ p, p ∉ s.foot → H' p = H p) (hG : SameJ G F H') (ha : s'.At K F H') :
    Sim K G F H' σ (ρ.set i (some (.box s'))) := by
  obtain ⟨b1, b2, b3⟩ := S.bx.box i s e
  have hi := at_lt e
  have cut : ∀ {j : Nat} {x : Cell}, (ρ.set i (some (.box s')))[j]? = some (some x) → (ρ[j]? = some (some x) ∧ i ≠ j) ∨ (j = i ∧ x = .box s') := fun {j x} h => by
    by_cases hj : i = j
    · subst hj
      rw [List.getElem?_set_self hi] at h
      cases h
      exact .inr ⟨rfl, rfl⟩
    · rw [List.getElem?_set_ne hj] at h; exact .inl ⟨h, hj⟩
  have out : ∀ {p : Addr}, p ∈ s'.foot → ∀ {j : Nat} {t : Sh}, ρ[j]? = some (some (.box t)) → i ≠ j → p ∉ t.foot := fun {p} m {j t} q hj mt => by
    rcases hf p m with h | ⟨_, _, h⟩
    · exact hj (S.bx.bb i j s t p e q h mt)
    · exact h.2 ⟨j, t, q, mt⟩
  refine ⟨fun b o q => ?_, hG, by simpa using S.len, fun j d' h => ?_, fun j b ys h => ?_, fun j k b ys zs h1 h2 => ?_, fun j t h => ?_, fun j k t u p h1 h2 m1 m2 => ?_, fun j a xs h ⟨k, t, h1, m⟩ => ?_⟩
  · rw [ho b fun m => by rw [(b2 b m).1] at q; cases q]; exact S.hF b o q
  · rcases cut h with ⟨h, q⟩ | ⟨_, z⟩
    · exact S.val j d' h
    · cases z
  · rcases cut h with ⟨h, q⟩ | ⟨_, z⟩
    · obtain ⟨g1, g2, g3, vs, g4, g5⟩ := S.own j b ys h
      exact ⟨g1, g2, g3, vs, by rw [ho b fun m => S.bx.bo j b ys h ⟨i, s, e, m⟩]; exact g4, g5⟩
    · cases z
  · rcases cut h1 with ⟨h1, _⟩ | ⟨_, z⟩
    · rcases cut h2 with ⟨h2, _⟩ | ⟨_, z⟩
      · exact S.ne j k b ys zs h1 h2
      · cases z
    · cases z
  · rcases cut h with ⟨h, q⟩ | ⟨rfl, z⟩
    · obtain ⟨g1, g2, g3⟩ := S.bx.box j t h
      exact ⟨g1, g2, g3.mono (.refl _) fun p m => ho p fun m2 => q (S.bx.bb i j s t p e h m2 m)⟩
    · cases z
      refine ⟨by rw [hr]; exact b1, fun p m => ?_, ha⟩
      rcases hf p m with h | ⟨h1, h2, _⟩
      · exact b2 p h
      · exact ⟨h1, h2⟩
  · rcases cut h1 with ⟨h1, q1⟩ | ⟨e1, z⟩
    · rcases cut h2 with ⟨h2, _⟩ | ⟨e2, z⟩
      · exact S.bx.bb j k t u p h1 h2 m1 m2
      · cases z
        exact absurd m1 (out m2 h1 q1)
    · cases z
      rcases cut h2 with ⟨h2, q2⟩ | ⟨e2, _⟩
      · exact absurd m2 (out m1 h2 q2)
      · omega
  · rcases cut h with ⟨h, _⟩ | ⟨_, z⟩
    · rcases cut h1 with ⟨h1, _⟩ | ⟨_, z⟩
      · exact S.bx.bo j a xs h ⟨k, t, h1, m⟩
      · cases z
        rcases hf a m with h2 | ⟨_, _, h2⟩
        · exact S.bx.bo j a xs h ⟨i, s, e, h2⟩
        · exact h2.1 j xs h
    · cases z
end
end Pl
namespace L2
open PySem PySem.Spec PyProof.Rows
theorem exk_ok {P : Program} {w : World} {H : Hp} {h : Heap} {a C dd : Addr} {oe : Obj} {vs : Array Value} (e : h.get? a = some oe) (z : Zc (.ref C) (some dd) oe) (d : oe.data = .fields vs) : ObjOk P w H h a (exk a C dd) :=
  ⟨⟨oe, vs, e, z.1, z.2, d⟩, ⟨oe, e⟩, fun _ _ ⟨o, v, q, r⟩ k => ⟨o, v, k o q, r⟩⟩
theorem exk_at {P : Program} {w : World} {H : Hp} {h : Heap} {a C dd : Addr} (hok : HOk P w H h) (e : H a = some (exk a C dd)) : ∃ (oe : Obj) (vs : Array Value), h.get? a = some oe ∧ oe.cls = .ref C ∧ oe.dict = some dd ∧ oe.data = .fields vs := by
  have x : ObjOk P w H h a (.ext fun h => ∃ (oe : Obj) (vs : Array Value), h.get? a = some oe ∧ oe.cls = .ref C ∧ oe.dict = some dd ∧ oe.data = .fields vs) := hok a _ e
  exact x.1
section
variable {X : Cx} {pins : List (Addr × Obj)} {σ : St} {H : Hp} {s : Shared}
theorem Inv.track (I : Inv X pins σ H s) {a C dd : Addr} {oe : Obj} {vs : Array Value} (na : H a = none) (n0 : X.s_0.heap.get? a = none) (e : s.heap.get? a = some oe) (z : Zc (.ref C) (some dd) oe) (d : oe.data = .fields vs) (np : ∀ p ∈ X.pn ++ pins, p.1 ≠ a) (nL : a ≠ X.env.locals) :
    Inv X pins σ (upd H a (exk a C dd)) s := by
  have old : ∀ {b o}, X.s_0.heap.get? b = some o → b ≠ a := fun {b o} q x => by rw [x, n0] at q; cases q
  have far : ∀ {b : Addr} {o : HO}, H b = some o → b ≠ a := fun {b o} q => ne_of_none q na
  refine ⟨I.ok, I.os, I.bare, ⟨I.base.keep, I.base.slot, fun b o q n x => by rw [upd_ne (old q)]; exact I.base.free b o q n x, I.base.there, fun b xs q => ?_, fun b o u q => ?_, fun b ps q => ?_⟩, I.loc, I.cell, by rw [upd_ne (Ne.symm nL)]; exact I.free, fun x c q => ?_, fun p hp => ?_, fun b u q => ?_, I.len⟩
  · have q := I.base.tups b xs q
    rw [upd_ne (far q)]; exact q
  · have q := I.base.frzs b o u q
    rw [upd_ne (far q)]; exact q
  · obtain ⟨m, q⟩ := I.base.tbls b ps q
    exact ⟨m, by rw [upd_ne (far q)]; exact q⟩
  · obtain ⟨v, o, ho, hv⟩ := I.cell x c q
    have ne : c ≠ a := fun z => by
      rw [z, e] at ho
      cases ho
      have hv' : oe.data = .cell v := hv
      rw [d] at hv'
      cases hv'
    rw [upd_ne ne]; exact I.freeC x c q
  · obtain ⟨h1, h2, h3⟩ := I.pin p hp
    exact ⟨h1, by rw [upd_ne (np p hp)]; exact h2, h3⟩
  · by_cases hb : b = a
    · subst hb
      rw [upd_same] at q
      cases q
      exact exk_ok e z d
    · rw [upd_ne hb] at q
      exact (I.hok b u q).stay (fun _ _ _ y => y) (fun c y => by rw [upd_ne (far y)]; exact y) fun c xs y => by rw [upd_ne (far y)]; exact y
end
def Hits (X : Cx) (tt : Expr) (cls : Value) : Prop := ∀ (a : Addr) (oe : Obj) (pn : List (Addr × Obj)) (σ : St) (H : Hp) (s : Shared) (Q : Value → Shared → Prop) (E : Value → Shared → Prop), Inv (X.suite a ((a, oe) :: pn)) [] σ H s → PySem.W.Looks (model X.prog X.w) s.heap (typeOf (.ref a)) cls →
  (∀ c h', (∀ b o, s.heap.get? b = some o → h'.get? b = some o) → PySem.W.Looks (model X.prog X.w) h' (excMatches (.ref a) c) true → Q c { s with heap := h' }) → wpAny (model X.prog X.w) (X.A.mark (some (.ref a))) (eval tt X.env) Q E s
def Named (X : Cx) (x : Str) (C : Addr) : Prop := Gl X x ∧ (x == ("__debug__" : Str)) = false ∧ X.mg x = some (.ref C)
section
variable {X : Cx} {cls : Value} {x1 x2 x3 x4 : Str} {C1 C2 C3 C4 : Addr} {p1 p2 p3 p4 tp : Pos} {kk : Nat}
theorem kpush {h : Heap} {ob : Obj} : ∀ b o, h.get? b = some o → (h.push ob).get? b = some o := fun _ _ q => Heap.get?_push_of_some _ q
theorem hits3 (n1 : Named X x1 C1) (n2 : Named X x2 C2) (n3 : Named X x3 C3) (h : PySem.W.exmAny X.K cls [.ref C1, .ref C2, .ref C3] = some true) : Hits X (.Tuple [.Name x1 p1, .Name x2 p2, .Name x3 p3] kk tp) cls := fun a oe pn σ H s Q E I LT k => by
  refine wpAny_Tuple (wpAny_items_cons (ld_glob (X := X.suite a ((a, oe) :: pn)) I n1.1 n1.2.2 ?_ n1.2.1))
  refine wpAny_items_cons (ld_glob (X := X.suite a ((a, oe) :: pn)) I n2.1 n2.2.2 ?_ n2.2.1)
  refine wpAny_items_cons (ld_glob (X := X.suite a ((a, oe) :: pn)) I n3.1 n3.2.2 ?_ n3.2.1)
  exact wpAny_items_nil ⟨by size_fits, k _ _ kpush (PySem.W.exm_tup3 (I.kIn.keeps kpush) (LT.keeps kpush) (Heap.get?_push_size s.heap rfl) h)⟩
end
theorem flying_kept {B h h' : Heap} {l : List Env} {a : Addr} {Z : Obj → Prop} (f : PySem.HandSPX.FlyingZ B l a Z h) (k : ∀ b o, h.get? b = some o → h'.get? b = some o) : PySem.HandSPX.FlyingZ B l a Z h' := by
  obtain ⟨f1, f2, f3, oe, vs, T, oT, ts, he, hz, hd, h1, hn, hne, hT, hdT, h3⟩ := f
  exact ⟨fun b o q => k b o (f1 b o q), f2, f3.of_keeps fun b o q _ => ⟨o, k b o q, rfl⟩, oe, vs, T, oT, ts, k _ _ he, hz, hd, h1, hn, hne, k _ _ hT, hdT, h3⟩
def wKeep (i j : Nat) (ok : Addr → Prop) (D : Ends) : WX := fun cls d σ H => ∃ C dd, cls = .ref C ∧ d = some dd ∧ ok C ∧ ∀ a, H a = none → D.nx (((σ.set i (some (.ref a))).set j (some (.ref a))).set i none) (upd H a (exk a C dd))
section
variable {X : Cx} {n y : Str} {i j : Nat} {tt : Expr} {body : List Stmt} {p1 p2 p3 pos pos' : Pos} {tb : WX → TS} {ok : Addr → Prop}
theorem ps_try_keep (hs : X.stack = X.env :: X.outer) (hf : X.env.frame = some X.env.locals) (hex : X.ex = []) (hN : X.N.Nodup) (hi : X.N[i]? = some n) (hj : X.N[j]? = some y) (hln : X.env.scope.names.lookup n = some .local) (hly : X.env.scope.names.lookup y = some .local)
    (hb : ∀ (W : WX) (pn : List (Addr × Obj)) (xe : Value → Shared → Prop), Takes (X.tr pn xe) W → PassesOwn (model X.prog X.w) X.A X.env xe → PSs (X.tr pn xe) body (tb W)) (hh : ∀ C, ok C → Hits X tt (.ref C))
    (sw : swapsWith (.Name n p2) (some (.Name y p1)) p3.line X.env = pure false := by rfl) (hd : (n == ("__debug__" : Str)) = false := by decide) (hcd : (n == ("__classdict__" : Str)) = false := by decide) :
    PS X (.Try body [.ExceptHandler (some tt) (some n) [.Assign [.Name y p1] (.Name n p2) p3] pos'] [] [] pos) (fun D σ H => tb (wKeep i j ok D) D σ H) := by
  refine ⟨fun pins s σ H D I h => ?_⟩
  have I0 := I
  have xok := I.ok
  have hfr : X.A.frames = some (X.env :: X.outer) := by rw [xok.frames, hs]
  refine wpAny_Try_except (wpAny_mono ((hb (wKeep i j ok D) (X.pn ++ pins) (fun e s₁ => wpAny (model X.prog X.w) X.A (noteFrame e X.env) (fun _ s₂ => wpAny (model X.prog X.w) X.A (setFlight e none) (fun _ s₃ =>
    wpAny (model X.prog X.w) X.A (handleBy e X.env [.ExceptHandler (some tt) (some n) [.Assign [.Name y p1] (.Name n p2) p3] pos']) (SP X pins D) X.xe s₃) X.xe s₂) X.xe s₁) (fun u s' xx => ?_) PassesOwn.looking).run [] s σ H D (I.toTry _) h) (fun f s1 hsp => ?_) (fun e s1 he => he))
  · obtain ⟨a, B, sI, pins', σ', H', cls, d, rfl, J', nb, up, sky, na, os, ag, C, dd, rfl, rfl, hC, go⟩ := xx
    have J : Inv X pins σ' H' sI := J'.ofTry xok
    have sky' : Sky B (X.env :: X.outer) a (Zc (.ref C) (some dd)) X.env.locals s'.heap := by rw [← hs]; exact sky
    have Bn : B.get? a = none := by
      rcases sky' with ⟨_, q, _⟩ | f | f
      · exact q
      · exact f.2.1
      · exact f.2.1
    show wpAny (model X.prog X.w) X.A (noteFrame (.ref a) X.env) _ _ _
    refine Sky.land Zc.steady hfr hf sky' fun h3 fl3 up3 => ?_
    have J3 : Inv X pins σ' H' { s' with heap := h3 } := J.landed nb fl3.1 (up.trans up3) os ag
    obtain ⟨oe3, vs3, he3, hz3, hd3⟩ := fl3.there
    have nfr : a ∉ frs (X.env :: X.outer) := fun hm => by
      obtain ⟨_, o', e', hnf⟩ := fl3.2.2.1.mem hm
      rw [he3] at e'; cases e'
      exact hnf _ hd3
    have nL : a ≠ X.env.locals := fun z => nfr (List.mem_filterMap.mpr ⟨X.env, List.mem_cons_self, by rw [hf, z]⟩)
    have nF : a ∉ X.fs := fun hm => by
      obtain ⟨e, he, q⟩ := List.mem_filterMap.mp hm
      exact nfr (List.mem_filterMap.mpr ⟨e, List.mem_cons_of_mem _ he, q⟩)
    have nI : sI.heap.get? a = none := by
      cases e : sI.heap.get? a with
      | none => rfl
      | some o =>
        have z := nb a o e (by rw [hs]; exact nfr)
        rw [Bn] at z; cases z
    have n0 : X.s_0.heap.get? a = none := by
      cases e : X.s_0.heap.get? a with
      | none => rfl
      | some o =>
        obtain ⟨o', z⟩ := J.base.there a o e (by rw [hex]; exact fun z => nomatch z)
        rw [nI] at z; cases z
    have np : ∀ p ∈ X.pn ++ pins, p.1 ≠ a := fun p hp z => by
      have q := (J.pin p hp).1
      rw [z, nI] at q; cases q
    have S3 := J3.suite he3 hd3 na nL nF
    refine wpAny_handleBy_cons (codeAny_handlers_test ?_) (by intro q; cases q)
    have LT : PySem.W.Looks (model X.prog X.w) h3 (typeOf (.ref a)) (.ref C) := fun A Q E s k q => wpAny_typeOf_ref (k _ _ he3) (by rw [hz3.1]; exact q)
    refine hh C hC a oe3 (X.pn ++ pins) σ' H' { s' with heap := h3 } _ _ S3 LT fun c h5 k5 LM => LM.here ?_
    have fl5 : PySem.HandSPX.FlyingZ B (X.env :: X.outer) a (Zc (.ref C) (some dd)) h5 := flying_kept fl3 k5
    have up5 : sI.heap.UpToSlots h5 := (up.trans up3).trans (Heap.UpToSlots.of_keeps k5)
    refine codeAny_handlers_suite_as ?_
    refine PySem.HandSPX.lands_againZ fl5 fun h4 fl4 up4 => ?_
    have J4 : Inv X pins σ' H' { s' with heap := h4 } := J.landed nb fl4.1 (up5.trans up4) os ag
    obtain ⟨oe4, vs4, he4, hz4, hd4⟩ := fl4.there
    have T4 := J4.track na n0 he4 hz4 hd4 np nL
    have ok4 : (X.suite a (X.pn ++ pins)).Ok := xok.suite _ _
    have S4 : Inv (X.suite a (X.pn ++ pins)) [] σ' (upd H' a (exk a C dd)) { s' with heap := h4 } := ⟨ok4, T4.os, T4.bare, T4.base, T4.loc, T4.cell, T4.free, T4.freeC, fun p hp => T4.pin p (by rw [List.append_nil] at hp; exact hp), T4.hok, T4.len⟩
    refine store_ok (X := X.suite a (X.pn ++ pins)) (v := .ref a) S4 hN hi (.inl hln) rfl (fun s5 S5 => ?_) (.inr hln)
    have lenI : i < σ'.length := by
      rw [J.len]
      have q : X.N[i]? = some n := hi
      exact (List.getElem?_eq_some_iff.mp q).1
    have st : PSs (X.suite a (X.pn ++ pins)) [.Assign [.Name y p1] (.Name n p2) p3] (tAsg (tVar i) (gName j)) := pss_one (ps_set (X := X.suite a (X.pn ++ pins)) hN hj (.inl hly) (pe_var hi (.inl hln) hd hcd) sw (.inr hly))
    refine wpAny_mono (st.run [] s5 _ _ { nx := fun σ6 H6 => D.nx (σ6.set i none) H6, rt := fun _ _ => False } S5 ⟨.ref a, List.getElem?_set_self lenI, go a na⟩) (fun f s6 hsp => ?_) (fun _ _ z => False.elim z)
    cases f with
    | next =>
      obtain ⟨σ6, H6, S6, q6⟩ := hsp
      have U6 : Inv X pins σ6 H6 s6 := ⟨xok, S6.os, S6.bare, S6.base, S6.loc, S6.cell, S6.free, S6.freeC, fun p hp => S6.pin p (by rw [List.append_nil]; exact hp), S6.hok, S6.len⟩
      exact gone_ok U6 hN hi hln fun s7 J7 => ⟨_, _, J7, q6⟩
    | brk => obtain ⟨_, _, _, q6⟩ := hsp; exact q6.elim
    | cont => obtain ⟨_, _, _, q6⟩ := hsp; exact q6.elim
    | ret u => obtain ⟨_, _, _, _, _, q6⟩ := hsp; exact q6.elim
  · cases f with
    | next => obtain ⟨σ', H', J', q⟩ := hsp; exact wpAny_execs_nil ⟨σ', H', J'.ofTry xok, q⟩
    | brk => obtain ⟨σ', H', J', q⟩ := hsp; exact ⟨σ', H', J'.ofTry xok, q⟩
    | cont => obtain ⟨σ', H', J', q⟩ := hsp; exact ⟨σ', H', J'.ofTry xok, q⟩
    | ret u => obtain ⟨v, σ', H', J', r, q⟩ := hsp; exact ⟨v, σ', H', J'.ofTry xok, r, q⟩
end
structure AskX (K : PySem.W.Frag) (C : Addr) : Prop where
  ga : PySem.W.findIn K (.ref C) "__getattribute__" = some (some (.builtin "BaseException.__getattribute__"))
  gg : PySem.W.findIn K (.ref C) "__getattr__" = some none
  ca : PySem.W.findIn K (.ref C) "__class__" = some (some (.builtin "object.__class__"))
  hn : PySem.W.specialIn K (.builtin "object.__class__") "__get__" = some (some (.builtin "getset_descriptor.__get__"))
  ht : PySem.W.takesIn K (.builtin "object.__class__") = some true
section
variable {K : PySem.W.Frag} {C : Addr} {nw : String} {tl : List Value}
theorem OwnX.cd (T : OwnX K C nw tl) : ∃ cd, PySem.W.clsIn K C = some cd ∧ cd.mro = .ref C :: tl ∧ cd.hasDict = true := by
  obtain ⟨nm, q, N, bs, sn, sub, ab, col, dd, k0, k1, k2, k3, k5, hC⟩ := T.cls
  exact ⟨{ name := nm, bases := bs, mro := .ref C :: tl, ns := N, qualname := q, hasDict := true, slotNames := sn, subclasses := sub, abstract := ab, collection := col, hasDel := false }, by unfold PySem.W.clsIn; rw [hC] <;> rfl, rfl, rfl⟩
theorem OwnX.mro (T : OwnX K C nw tl) (b : Value) : PySem.W.mroIn K C b = some ((.ref C == b) || tl.contains b) := by
  obtain ⟨cd, h1, h2, _⟩ := T.cd
  unfold PySem.W.mroIn
  rw [h1, Option.bind_some, h2, if_neg (by simp), List.contains_cons]
  cases h : (Value.ref C == b) with
  | true => rw [beq_iff_eq.mp h]; simp
  | false =>
    have : (b == Value.ref C) = false := by
      cases q : (b == Value.ref C) with
      | false => rfl
      | true => rw [← beq_iff_eq.mp q] at h; simp at h
    rw [this]
end
def rIsX (K : PySem.W.Frag) : List V → Hp → VK → Prop := fun xs H Q => ∃ (a C dd : Addr) (fs : List (Str × V)) (nw : String) (tl : List Value) (c : V) (u : Value) (b : Bool), xs = [.ref a, c] ∧ H a = some (exk a C dd) ∧ H dd = some (.xd fs) ∧ OwnX K C nw tl ∧ tl.contains (.type "object") = true ∧ AskX K C ∧ ClsV c u ∧ PySem.W.kitOne K (.ref C) u = some b ∧ Q (.bl b) H
def rIsXT (K : PySem.W.Frag) : List V → Hp → VK → Prop := fun xs H Q => ∃ (a C dd tp : Addr) (fs : List (Str × V)) (nw : String) (tl : List Value) (cs : List V) (us : List Value) (b : Bool), xs = [.ref a, .ref tp] ∧ H a = some (exk a C dd) ∧ H dd = some (.xd fs) ∧ OwnX K C nw tl ∧ tl.contains (.type "object") = true ∧ AskX K C ∧
  H tp = some (.tup cs) ∧ Paired ClsV cs us ∧ PySem.W.kitAny K (.ref C) us = some b ∧ Q (.bl b) H
section
variable {X : Cx}
theorem exk_inst {pins : List (Addr × Obj)} {σ : St} {H : Hp} {s : Shared} {a C dd : Addr} {fs : List (Str × V)} (I : Inv X pins σ H s) (ea : H a = some (exk a C dd)) (ed : H dd = some (.xd fs)) :
    ∃ oe od, PySem.W.InstAt s.heap a oe C (some od) ∧ ∃ mA : Str → Option Value, (∀ name, PySem.W.lookIn name od = some (mA name)) ∧ ∀ f, RelO (fs.lookup f) (mA f) := by
  obtain ⟨oe, vs, ho, hc, hdict, hd⟩ := exk_at I.hok ea
  have hx : ObjOk X.prog X.w H s.heap dd (.xd fs) := I.hok dd _ ed
  obtain ⟨mA, hns, hr⟩ := hx
  obtain ⟨od, hod, hl⟩ := lookIn_ns hns
  exact ⟨oe, od, ⟨ho, hc, by unfold PySem.W.notCls; rw [hd] <;> rfl, by rw [hdict]; exact hod⟩, mA, hl, hr⟩
theorem exk_kit {K : PySem.W.Frag} {a C : Addr} {oe od : Obj} {nw : String} {tl : List Value} (T : OwnX K C nw tl) (hob : tl.contains (.type "object") = true) (A : AskX K C) : PySem.W.KitX K (.ref a) (.ref C) (fun h => PySem.W.InstAt h a oe C (some od)) := by
  obtain ⟨cd, h1, _, _⟩ := T.cd
  exact PySem.W.kitx_exc (by rw [h1]; rfl) A.ga A.gg T.exC A.ca A.hn A.ht (by rw [T.mro, hob, Bool.or_true])
theorem call_isX : CallR X (.builtin "isinstance") (rIsX X.K) := by
  intro pins s σ H xs us Q I r h
  obtain ⟨a, C, dd, fs, nw, tl, c, u, b, rfl, ea, ed, T, hob, A, k, e, q⟩ := h
  obtain ⟨u1, u2, rfl, r1, r2⟩ := vals2 r
  cases (show u1 = Value.ref a from r1)
  have e2 := k.eq r2
  subst e2
  obtain ⟨oe, od, J, _⟩ := exk_inst I ea ed
  exact PySem.W.kia_one (exk_kit T hob A) I.kIn J e (fun z => nomatch z) fun tk => ⟨.bl b, H, I.tok tk, rfl, q⟩
theorem call_isXT : CallR X (.builtin "isinstance") (rIsXT X.K) := by
  intro pins s σ H xs us Q I r h
  obtain ⟨a, C, dd, tp, fs, nw, tl, cs, ws, b, rfl, ea, ed, T, hob, A, hT, k, e, q⟩ := h
  obtain ⟨u1, u2, rfl, r1, r2⟩ := vals2 r
  cases (show u1 = Value.ref a from r1)
  cases (show u2 = Value.ref tp from r2)
  obtain ⟨oe, od, J, _⟩ := exk_inst I ea ed
  obtain ⟨_, its, rv, o, h1, h2, n, h3⟩ := (show ObjOk X.prog X.w H s.heap tp (.tup cs) from I.hok tp _ hT)
  have e3 := ClsV.all k rv
  subst e3
  obtain ⟨oc, odd, dt, sl⟩ := o
  simp only at h2 h3
  subst h2 h3
  exact PySem.W.kia_tup (exk_kit T hob A) I.kIn J h1 e (fun z => nomatch z) fun tk => ⟨.bl b, H, I.tok tk, rfl, q⟩
def tXfk (K : PySem.W.Frag) (f : Str) (te : TE) : TE := fun σ H Q => te σ H fun x H1 => ∃ (a C dd : Addr) (fs : List (Str × V)) (nw : String) (tl : List Value) (v : V), x = .ref a ∧ H1 a = some (exk a C dd) ∧ H1 dd = some (.xd fs) ∧ OwnX K C nw tl ∧ AskX K C ∧ PySem.W.findIn K (.ref C) f = some none ∧ fs.lookup f = some v ∧ Q v H1
theorem pe_xfk {e : Expr} {te : TE} {pos : Pos} {f : Str} (he : PE X e te) (hb : attributeBase e f X.env (eval e X.env) = eval e X.env := by rfl) : PE X (.Attribute e f pos) (tXfk X.K f te) := by
  refine ⟨fun pins s σ H Q I h => ?_⟩
  refine attr_of hb (thn (he.run pins s σ H _ I h) fun u s1 ⟨x, H1, I1, rx, a, C, dd, fs, nw, tl, v, ex, ea, ed, T, A, hno, l, q⟩ => ?_)
  subst ex
  cases (show u = Value.ref a from rx)
  obtain ⟨oe, od, J, mA, hl, hr⟩ := exk_inst I1 ea ed
  obtain ⟨u, hu, ru⟩ := RelO.some_of (v := v) (o := mA f) (by rw [← l]; exact hr f)
  obtain ⟨cd, h1, _, h3⟩ := T.cd
  exact PySem.HandSPX.exc_get I1.kIn J A.ga A.gg T.exC (PySem.W.findObj_own (by unfold PySem.W.hasDictIn; rw [h1]; exact h3) hno rfl (by rw [hl, hu])) (handed_of ru) ⟨v, H1, I1.tok _, ru, q⟩
end
end L2
namespace Pl
open PySem PySem.Spec PyProof.Rows L2
section
variable [TJ]
structure XD where
  c : Str
  y : D
abbrev unl : Str := "Unlike 0"
def XRep (K : PySem.W.Frag) (F : Hp) (cls : Value) (d : Option Addr) (x : XD) : Prop := ∃ C : Addr, cls = .ref C ∧
  ((x.c ≠ unl ∧ PySem.W.nsIn K mainGlobals x.c = some (some (.ref C)) ∧ ∃ (dd : Addr) (v : V), d = some dd ∧ F dd = some (.xd [(xfield x.c, v)]) ∧ Rep K F v x.y) ∨ (x.c = unl ∧ PySem.W.nsIn K mainGlobals "Unlike" = some (some (.ref C)) ∧ d = none))
theorem XRep.mono {K : PySem.W.Frag} {F F' : Hp} {cls : Value} {d : Option Addr} {x : XD} (e : Same F F') (h : XRep K F cls d x) : XRep K F' cls d x := by
  obtain ⟨C, h2, ⟨hc, h1, dd, v, h3, h4, h5⟩ | h3⟩ := h
  · exact ⟨C, h2, .inl ⟨hc, h1, dd, v, h3, e _ _ h4, h5.mono e⟩⟩
  · exact ⟨C, h2, .inr h3⟩
abbrev XP := XD → Ro → Prop
def XRel (K : PySem.W.Frag) (W : WX) (G F : Hp) (xx : XP) : Prop := ∀ F' H' σ' ρ' cls d x, Up G F F' → Sim K G F' H' σ' ρ' → XRep K F' cls d x → xx x ρ' → W cls d σ' H'
theorem XRel.mono {K : PySem.W.Frag} {W : WX} {G F F1 : Hp} {xx : XP} (h : XRel K W G F xx) (u : Up G F F1) : XRel K W G F1 xx := fun F' H' σ' ρ' cls d x v => h F' H' σ' ρ' cls d x (u.trans v)
theorem Sim.grow {K : PySem.W.Frag} {G F H F' H' : Hp} {σ : L2.St} {ρ : Ro} (S : Sim K G F H σ ρ) (u : Up G F F') (hF : Same F' H') (hH : Same H H') (fr : ∀ a o, H a = some o → Mut o → F a = none → F' a = none) (nw : ∀ b o, F' b = some o → F b = some o ∨ H b = none) : Sim K G F' H' σ ρ :=
  ⟨hF, S.hG.up hH nw, S.len, fun i d h => by
    obtain ⟨w, h1, h2⟩ := S.val i d h
    exact ⟨w, h1, h2.mono u.ex⟩, fun i a xs h => by
    obtain ⟨h1, h2, h3, vs, h4, h5⟩ := S.own i a xs h
    exact ⟨h1, fr a _ h4 trivial h2, h3, vs, hH _ _ h4, h5.mono u.ex⟩, S.ne, S.bx.heap u.ex fun p m => let ⟨f, g, _⟩ := S.bx.free m; let ⟨o, e, mo⟩ := S.bx.mut m; ⟨fr p o e mo f, g, (hH _ _ e).trans e.symm⟩⟩
abbrev TXe := Ro → XP → Prop
def SndX (K : PySem.W.Frag) (W : WX) (t : TE) (T : TXe) : Prop := ∀ (G F H : Hp) (σ : L2.St) (ρ : Ro) (xx : XP) (R : VK), Sim K G F H σ ρ → T ρ xx → XRel K W G F xx → t σ H R
def SndXA (K : PySem.W.Frag) (W : WX) (t : TA) (T : TXe) : Prop := ∀ (G F H : Hp) (σ : L2.St) (ρ : Ro) (xx : XP) (R : List V → Hp → Prop), Sim K G F H σ ρ → T ρ xx → XRel K W G F xx → t σ H R
def SndXI (K : PySem.W.Frag) (W : WX) (t : TI) (T : TXe) : Prop := ∀ (G F H : Hp) (σ : L2.St) (ρ : Ro) (xx : XP) (R : It → Hp → Prop), Sim K G F H σ ρ → T ρ xx → XRel K W G F xx → t σ H R
structure PXE (X : Cx) (W : WX) (e : Expr) (t : TE) (T : TXe) : Prop where
  pe : PE X e t
  snd : SndX X.K W t T
structure PXA (X : Cx) (W : WX) (es : List Expr) (t : TA) (T : TXe) : Prop where
  pa : PA X es t
  snd : SndXA X.K W t T
structure PXI (X : Cx) (W : WX) (tg iter : Expr) (t : TI) (T : TXe) : Prop where
  pi : PI X tg iter t
  snd : SndXI X.K W t T
abbrev FX := List D → (XD → Prop) → Prop
def spX (K : PySem.W.Frag) (n : Nat) (g : FX) : Sp := fun vs H _ E => ∃ (F : Hp) (ds : List D) (C : XD → Prop), vs.length = n ∧ Same F H ∧ Reps K F vs ds ∧ g ds C ∧
  ∀ x cls d F' H', Up H F F' → Same F' H' → Same H H' → XRep K F' cls d x → C x → E cls d H'
section
variable {X : Cx} {W : WX} {k : Nat} {f : Addr} {fd : FuncData} {ps : List Str} {x : Str} {p pos : Pos} {e a b c : Expr} {es : List Expr} {t ta' : TA} {T : TAp} {n : Nat} {te ta tb : TE} {Te Ta Tb U : TEp} {Xe Xa Xb : TXe}
def xCall (n : Nat) (g : FX) (T : TAp) : TXe := fun ρ xx => T ρ fun ds ρ1 => ds.length = n ∧ g ds fun x => xx x ρ1
theorem pxe_call {g : FX} (Fn : FnOk X.prog X.w X.K X.mg X.base (L2.CX X.prog X.w) k f fd ps (spX X.K n g)) (tk : Takes X W) (hr : Room k X.A) (hg : Gl X x) (hm : X.mg x = some (.ref f)) (hk : PySem.W.keepIn X.K (.ref f) = true) (hb : Binds X.K fd ps []) (ha : PPA X (e :: es) t T)
    (hdb : (x == ("__debug__" : Str)) = false := by decide) (he : starEach (e :: es) X.env = (false, eval e X.env) :: starEach es X.env := by rfl) (hpl : (backTo pos (starEach es X.env)).any (·.1) = false := by rfl) :
    PXE X W (.Call (.Name x p) (e :: es) [] pos) (tCallSD (spX X.K n g) [] (WE W) t) (xCall n g T) := ⟨pe_callSD Fn hr hg hm hk hb .nil (passAt tk) ha.pa hdb he hpl, fun G F H σ ρ xx R S hT hx =>
  ha.snd G F H σ ρ _ _ S hT fun vs ds F1 H1 ρ1 u1 S1 r1 h1 => by
    show spX X.K n g (vs ++ []) H1 R _
    rw [List.append_nil]
    refine ⟨F1, ds, _, by rw [r1.length]; exact h1.1, S1.hF, r1, h1.2, fun x cls d F' H' u hF hH xr q => ?_⟩
    have u' : Up G F1 F' := u.less S1.hG
    exact hx F' H' σ ρ1 cls d x (u1.trans u') (S1.grow u' hF hH (fun a o ha _ hf => u.isNone hf ha) u.out) xr q⟩
theorem pxa_here (ha : PXE X W e te Xe) (hr : PPA X es t T) (hs : starEach (e :: es) X.env = (false, eval e X.env) :: starEach es X.env := by rfl) : PXA X W (e :: es) (tCons te t) Xe :=
  ⟨pa_cons ha.pe hr.pa hs, fun G F H σ ρ xx R S hT hx => ha.snd G F H σ ρ xx _ S hT hx⟩
theorem pxe_tup {x1} (ha : PXA X W es t Xa) : PXE X W (.Tuple es x1 pos) (tTup t) Xa := ⟨pe_tup ha.pa, fun G F H σ ρ xx R S hT hx => ha.snd G F H σ ρ xx _ S hT hx⟩
theorem pxi_seq {tg l : Expr} {tl : TE} (hl : PXE X W l tl Xe) : PXI X W tg l (iAny X.K tl) Xe := ⟨pi_any hl.pe, fun G F H σ ρ xx R S hT hx => hl.snd G F H σ ρ xx _ S hT hx⟩
def xIf1 (C : TTp) (Xa : TXe) : TXe := fun ρ xx => C ρ fun b ρ1 => b = true ∧ Xa ρ1 xx
theorem pxe_if1 {c : Expr} {tc : TT} {C : TTp} (hc : PPT X c tc C) (ha : PXE X W a ta Xa) (hb : PPE X b tb Tb) : PXE X W (.IfExp c a b pos) (tIf tc ta tb) (xIf1 C Xa) := ⟨pe_ifExp hc.pt ha.pe hb.pe, fun G F H σ ρ xx R S hT hx =>
  hc.snd G F H σ ρ _ _ S hT fun b F1 H1 ρ1 u1 S1 q1 => by
    obtain ⟨rfl, q⟩ := q1
    exact ite_ti (ha.snd G F1 H1 σ ρ1 xx _ S1 q (hx.mono u1))⟩
def xIf (C : TTp) (Xa Xb : TXe) : TXe := fun ρ xx => C ρ fun b ρ1 => if b = true then Xa ρ1 xx else Xb ρ1 xx
theorem pxe_if {c : Expr} {tc : TT} {C : TTp} (hc : PPT X c tc C) (ha : PXE X W a ta Xa) (hb : PXE X W b tb Xb) : PXE X W (.IfExp c a b pos) (tIf tc ta tb) (xIf C Xa Xb) := ⟨pe_ifExp hc.pt ha.pe hb.pe, fun G F H σ ρ xx R S hT hx =>
  hc.snd G F H σ ρ _ _ S hT fun b F1 H1 ρ1 u1 S1 q1 => by
    cases b with
    | true => exact ite_ti (ha.snd G F1 H1 σ ρ1 xx _ S1 (ite_t q1) (hx.mono u1))
    | false => exact ite_fi (hb.snd G F1 H1 σ ρ1 xx _ S1 (ite_f q1) (hx.mono u1))⟩
end
abbrev TXs := PEnds → XP → Ro → Prop
def SndXS (K : PySem.W.Frag) (W : WX) (t : TS) (T : TXs) : Prop := ∀ (G F H : Hp) (σ : L2.St) (ρ : Ro) (P : PEnds) (D : Ends) (xx : XP), Sim K G F H σ ρ → T P xx ρ → ERel K G F P D → XRel K W G F xx → t D σ H
structure PXS (X : Cx) (W : WX) (st : Stmt) (t : TS) (T : TXs) : Prop where
  ps : PS X st t
  snd : SndXS X.K W t T
structure PXSs (X : Cx) (W : WX) (st : List Stmt) (t : TS) (T : TXs) : Prop where
  ps : PSs X st t
  snd : SndXS X.K W t T
def liftXS (K : PySem.W.Frag) (W : WX) (T : TXs) : TS := fun D σ H => ∃ (G F : Hp) (ρ : Ro) (P : PEnds) (xx : XP), Sim K G F H σ ρ ∧ T P xx ρ ∧ ERel K G F P D ∧ XRel K W G F xx
section
variable {X : Cx} {W : WX} {st : Stmt} {rest : List Stmt} {t u : TS} {T : TSp} {U V' : TXs} {e : Expr} {te : TE} {Te : TEp} {Xe : TXe} {pos : Pos}
theorem PXSs.lift (h : PXSs X W rest t U) : PXSs X W rest (liftXS X.K W U) U :=
  ⟨⟨fun pins s σ H D I ⟨G, F, ρ, P, xx, S, hT, r, hx⟩ => h.ps.run pins s σ H D I (h.snd G F H σ ρ P D xx S hT r hx)⟩, fun G F H σ ρ P D xx S hT r hx => ⟨G, F, ρ, P, xx, S, hT, r, hx⟩⟩
def xOk (T : TSp) : TXs := fun P _ ρ => T P ρ
theorem pxs_ok (h : PPS X st t T) : PXS X W st t (xOk T) := ⟨h.ps, fun G F H σ ρ P D xx S hT r _ => h.snd G F H σ ρ P D S hT r⟩
def xOr (T : TSp) (U : TXs) : TXs := fun P xx ρ => T P ρ ∨ U P xx ρ
theorem pxs_or (h : PPS X st t T) (h2 : PXS X W st u U) : PXS X W st (fun D σ H => t D σ H ∨ u D σ H) (xOr T U) :=
  ⟨⟨fun pins s σ H D I q => q.elim (h.ps.run pins s σ H D I) (h2.ps.run pins s σ H D I)⟩, fun G F H σ ρ P D xx S hT r hx => hT.elim (fun q => .inl (h.snd G F H σ ρ P D S q r)) fun q => .inr (h2.snd G F H σ ρ P D xx S q r hx)⟩
def xNext : TXs := fun P _ ρ => P.nx ρ
def xSeq (U V : TXs) : TXs := fun P xx ρ => U { P with nx := V P xx } xx ρ
theorem pxss_nil : PXSs X W [] tNext xNext := ⟨pss_nil, fun G F H σ ρ P D xx S h r _ => r.nx F H σ ρ (.refl _ _) S h⟩
theorem pxss_one (h : PXS X W st t U) : PXSs X W [st] t U := ⟨pss_one h.ps, h.snd⟩
theorem pxss_cons (h1 : PXS X W st t U) (h2 : PXSs X W rest u V') : PXSs X W (st :: rest) (tSeq t u) (xSeq U V') := ⟨pss_cons h1.ps h2.ps, fun G F H σ ρ P D xx S h r hx =>
  h1.snd G F H σ ρ _ _ xx S h ⟨fun F' H' σ' ρ' u S' q => h2.snd G F' H' σ' ρ' P D xx S' q (r.mono u) (hx.mono u), r.rt, r.bk, r.ct⟩ hx⟩
def xIfS (C : TTp) (U V : TXs) : TXs := fun P xx ρ => C ρ fun b ρ1 => if b = true then U P xx ρ1 else V P xx ρ1
theorem pxs_if {c : Expr} {a b : List Stmt} {tc : TT} {C : TTp} (hc : PPT X c tc C) (ha : PXSs X W a t U) (hb : PXSs X W b u V') : PXS X W (.If c a b pos) (tIfS tc t u) (xIfS C U V') := ⟨ps_if hc.pt ha.ps hb.ps, fun G F H σ ρ P D xx S h r hx =>
  hc.snd G F H σ ρ _ _ S h fun b F' H' ρ' u S' q => by
    cases b with
    | true => exact ite_ti (ha.snd G F' H' σ ρ' P D xx S' (ite_t q) (r.mono u) (hx.mono u))
    | false => exact ite_fi (hb.snd G F' H' σ ρ' P D xx S' (ite_f q) (r.mono u) (hx.mono u))⟩
def xE (Xe : TXe) : TXs := fun _ xx ρ => Xe ρ xx
theorem pxs_ret (he : PXE X W e te Xe) : PXS X W (.Return (some e) pos) (tRet te) (xE Xe) := ⟨ps_ret he.pe, fun G F H σ ρ P D xx S h r hx => he.snd G F H σ ρ xx _ S h hx⟩
theorem pxs_set {i : Nat} {x : Str} {pos' : Pos} (hN : X.N.Nodup) (he : PXE X W e te Xe) (hi : X.N[i]? = some x := by rfl) (hx : Loc X.env.scope x := by first | exact Or.inl rfl | exact Or.inr rfl) (hs : swapsWith e (some (.Name x pos')) pos.line X.env = pure false := by rfl) (hf : X.fn x = true ∨ X.env.scope.names.lookup x = some .local := by first | exact .inl rfl | exact .inr rfl | assumption) :
    PXS X W (.Assign [.Name x pos'] e pos) (tAsg te (gName i)) (xE Xe) := ⟨ps_set hN hi hx he.pe hs hf, fun G F H σ ρ P D xx S h r hx => he.snd G F H σ ρ xx _ S h hx⟩
theorem pxs_forX {tg iter : Expr} {body : List Stmt} {wi : TI} {Xi : TXe} {g : TG} {Gp : TGp} {is : List Nat} {tb : TS} {Tb : TSp} (hp : PassesOwn (model X.prog X.w) X.A X.env X.xe) (hc : X.calm = true) (hi : PXI X W tg iter wi Xi) (hg : PTg X tg g Gp is) (hb : PPSs X body tb Tb)
    (hs : ∀ x, foldedSetIterable iter X.env x = pure x := by intro _; rfl) : PXS X W (.For tg iter body [] pos) (tFor wi g tb) (xE Xi) := ⟨ps_for hp hc hi.pi hg.pg hb.ps hs, fun G F H σ ρ P D xx S h r hx => hi.snd G F H σ ρ xx _ S h hx⟩
def xforW (g : TGp) (tb : TXs) (P : PEnds) (xx : XP) : List D → Ro → Prop
  | [], ρ => P.nx ρ
  | d :: ds, ρ => g d ρ fun ρ1 => tb { P with nx := xforW g tb P xx ds, ct := xforW g tb P xx ds, bk := P.nx } xx ρ1
def xFor (Ti : TAp) (g : TGp) (tb : TXs) : TXs := fun P xx ρ => Ti ρ fun ds ρ1 => xforW g tb P xx ds ρ1
theorem pxs_for {tg iter : Expr} {body : List Stmt} {wi : TI} {Ti : TAp} {g : TG} {Gp : TGp} {is : List Nat} {tb : TS} {Tb : TXs} (hp : PassesOwn (model X.prog X.w) X.A X.env X.xe) (hc : X.calm = true) (hi : PPI X tg iter wi Ti) (hg : PTg X tg g Gp is) (hb : PXSs X W body tb Tb)
    (hs : ∀ x, foldedSetIterable iter X.env x = pure x := by intro _; rfl) : PXS X W (.For tg iter body [] pos) (tFor wi g tb) (xFor Ti Gp Tb) := ⟨ps_for hp hc hi.pi hg.pg hb.ps hs, fun G F H σ ρ P D xx S h r hx =>
  hi.snd G F H σ ρ _ _ S h fun J ds F1 H1 ρ1 u1 S1 J1 w1 => by
    refine ⟨fun i m σ' H' => m + i = ds.length ∧ ∃ F' ρ', Up G F1 F' ∧ Sim X.K G F' H' σ' ρ' ∧ xforW Gp Tb P xx (ds.drop i) ρ', ⟨ds.length, by omega, F1, ρ1, .refl _ _, S1, w1⟩, fun i m σ' H' ⟨hm, F', ρ', u', S', w'⟩ => ?_⟩
    have J' := J1 F' H' u'.ex S'.hF
    by_cases hlt : i < ds.length
    · refine .inr ⟨(J'.1 i ds[i] (List.getElem?_eq_getElem hlt)).1, fun σ'' H'' => ∃ F'' ρ'', Up G F1 F'' ∧ Sim X.K G F'' H'' σ'' ρ'' ∧ xforW Gp Tb P xx (ds.drop (i + 1)) ρ'', fun σ'' H'' q => ⟨m - 1, by omega, by omega, q⟩, fun x H'' hy => ?_⟩
      obtain ⟨F2, res⟩ := (J'.1 i ds[i] (List.getElem?_eq_getElem hlt)).2 x H'' hy
      obtain ⟨u2, S2, r2⟩ := S'.res res
      rw [List.drop_eq_getElem_cons hlt] at w'
      refine hg.snd G F2 H'' σ' ρ' _ _ x _ S2 r2 w' fun F3 H3 σ3 ρ3 u3 S3 _ _ q3 => ?_
      have up := (u'.trans u2).trans u3
      exact hb.snd G F3 H3 σ3 ρ3 _ _ xx S3 q3 ⟨fun F4 H4 σ4 ρ4 u4 S4 q4 => ⟨F4, ρ4, up.trans u4, S4, q4⟩, fun F4 H4 σ4 ρ4 v c u4 S4 q4 => r.rt F4 H4 σ4 ρ4 v c (u1.trans (up.trans u4)) S4 q4,
        fun F4 H4 σ4 ρ4 u4 S4 q4 => r.nx F4 H4 σ4 ρ4 (u1.trans (up.trans u4)) S4 q4, fun F4 H4 σ4 ρ4 u4 S4 q4 => ⟨F4, ρ4, up.trans u4, S4, q4⟩⟩ (hx.mono (u1.trans up))
    · have e : i = ds.length := by omega
      subst e
      rw [List.drop_length] at w'
      exact .inl ⟨J'.2, r.nx F' H' σ' ρ' (u1.trans u') S' w'⟩⟩
end
def spI (K : PySem.W.Frag) (c : Str) (C : Addr) (ok : D → Prop) : Sp := fun vs H Q _ => ∃ (F : Hp) (a : Addr) (v : V) (d : D), vs = [.ref a, v] ∧ H a = some (exo a C none) ∧ F a = none ∧ Same F H ∧ Rep K F v d ∧ ok d ∧
  ∀ (dd : Addr) (v' : V) (F' H' : Hp), H' a = some (exo a C (some dd)) → H' dd = some (exd dd [(xfield c, v')]) → H dd = none → dd ≠ a → Up H F F' → F' dd = none → (∀ b o, b ≠ a → F' b = some o → H' b = some o) → (∀ b o, b ≠ a → H b = some o → H' b = some o) → Rep K F' v' d → Q .non H'
section
variable {X : Cx} {W : WX} {x : Str} {C fI : Addr} {k : Nat} {fd : FuncData} {ps : List Str} {ok : D → Prop} {e : Expr} {ta : TA} {Ta : TAp} {p pos pos2 : Pos} {newId initId B : String} {tl : List Value}
def xRaise (c : Str) (ok : D → Prop) (T : TAp) : TXs := fun _ xx ρ => T ρ fun ds ρ1 => match ds with | [d] => ok d ∧ xx ⟨c, d⟩ ρ1 | _ => False
theorem pxs_raise (hc : X.calm = true) (tk : Takes X W) (O : PySem.OEY.Over B newId initId tl) (T : OwnX X.K C newId tl) (hns : PySem.W.nsIn X.K mainGlobals x = some (some (.ref C))) (iC : PySem.W.findIn X.K (.ref C) "__init__" = some (some (.ref fI))) (tI : PySem.W.typeIn X.K (.ref fI) = some (.type "function"))
    (F1 : FnOk X.prog X.w X.K X.mg X.base CX0 k fI fd ps (spI X.K x C ok)) (hr : Room (k + 1) X.A) (hb : Binds X.K fd ps []) (hg : Gl X x) (hm : X.mg x = some (.ref C)) (ha : PPA X [e] ta Ta)
    (hdb : (x == ("__debug__" : Str)) = false := by decide) (he : starEach [e] X.env = (false, eval e X.env) :: starEach [] X.env := by rfl) (hpl : (backTo pos (starEach [] X.env)).any (·.1) = false := by rfl) (hU : x ≠ unl := by decide) :
    PXS X W (.Raise (some (.Call (.Name x p) [e] [] pos)) none pos2) (fun _ σ H => tMkO C (spI X.K x C ok) [] ta σ H fun cls d H' => W cls d σ H') (xRaise x ok Ta) :=
  ⟨ps_raise hc tk (pmk_oy O T iC tI F1 hr hb .nil pass0 hg hm ha.pa hdb he hpl), fun G F H σ ρ P D xx S hT r hx =>
    ha.snd G F H σ ρ _ _ S hT fun vs ds F1 H1 ρ1 u1 S1 r1 h1 => by
      match ds, r1, h1 with
      | [d], .cons (v := v) rv .nil, h1 =>
        refine ⟨(by show (1 : Nat) ≤ 1000; decide), fun a na => ?_⟩
        have fa : F1 a = none := S1.freshF na
        refine ⟨F1, a, v, d, rfl, upd_same, fa, fun b o q => ?_, rv, h1.1, fun dd v' F' H' ea ed hd ne up fd' sF sH rp => ?_⟩
        · rw [upd_ne (ne_of_none (S1.hF _ _ q) na)]; exact S1.hF _ _ q
        have H1d : H1 dd = none := by rw [upd_ne ne] at hd; exact hd
        have F'a : F' a = none := up.isNone fa upd_same
        refine ⟨rfl, dd, _, ea, ed, H1d, ?_⟩
        have hH : Same H1 (upd (del H' a) dd (.xd [(xfield x, v')])) := fun b o q => by
          have n1 : b ≠ a := ne_of_none q na
          have n2 : b ≠ dd := ne_of_none q H1d
          rw [upd_ne n2, del_ne n1]
          exact sH b o n1 (by rw [upd_ne n1]; exact q)
        have sm : Same F' (upd F' dd (.xd [(xfield x, v')])) := same_new fd'
        have hF : Same (upd F' dd (.xd [(xfield x, v')])) (upd (del H' a) dd (.xd [(xfield x, v')])) := fun b o q => by
          by_cases n2 : b = dd
          · subst n2; rw [upd_same] at q ⊢; exact q
          · rw [upd_ne n2] at q ⊢
            have n1 : b ≠ a := ne_of_none q F'a
            rw [del_ne n1]
            exact sF b o n1 q
        have u2 : Up G F1 (upd F' dd (.xd [(xfield x, v')])) := ⟨up.ex.trans sm, fun b o q => by
          by_cases n2 : b = dd
          · subst n2; exact .inr (S1.freshG H1d)
          · rw [upd_ne n2] at q
            rcases up.out b o q with z | z
            · exact .inl z
            · by_cases n1 : b = a
              · rw [n1, F'a] at q; cases q
              · rw [upd_ne n1] at z; exact .inr (S1.freshG z)⟩
        refine hx _ _ σ ρ1 _ _ ⟨x, d⟩ (u1.trans u2) (S1.grow u2 hF hH (fun b us hb _ hf => ?_) fun b o q => ?_) ⟨C, rfl, .inl ⟨hU, hns, dd, v', rfl, upd_same, rp.mono sm⟩⟩ h1.2
        · have n2 : b ≠ dd := ne_of_none hb H1d
          have n1 : b ≠ a := ne_of_none hb na
          rw [upd_ne n2]
          exact up.isNone hf (by rw [upd_ne n1]; exact hb)
        · by_cases n2 : b = dd
          · subst n2; exact .inr H1d
          · rw [upd_ne n2] at q
            rcases up.out b o q with z | z
            · exact .inl z
            · by_cases n1 : b = a
              · subst n1; rw [F'a] at q; cases q
              · rw [upd_ne n1] at z; exact .inr z
      | [], _, h1 => exact h1.elim
      | _ :: _ :: _, _, h1 => exact h1.elim⟩
end
section
variable {X : Cx} {n y : Str} {i j : Nat} {tt : Expr} {body : List Stmt} {p1 p2 p3 pos pos' : Pos} {T : TXs} {cs : List Str}
def pTry (i j : Nat) (cs : List Str) (T : TXs) : TSp := fun P ρ => T P (fun x ρ' => x.c ∈ cs ∧ P.nx (((ρ'.set i (some (.val (.exc x.c x.y)))).set j (some (.val (.exc x.c x.y)))).set i none)) ρ
theorem pps_try (hs : X.stack = X.env :: X.outer) (hf : X.env.frame = some X.env.locals) (hex : X.ex = []) (hN : X.N.Nodup) (hi : X.N[i]? = some n) (hj : X.N[j]? = some y) (hln : X.env.scope.names.lookup n = some .local) (hly : X.env.scope.names.lookup y = some .local)
    (hb : ∀ (W : WX) (pn : List (Addr × Obj)) (xe : Value → Shared → Prop), Takes (X.tr pn xe) W → PassesOwn (model X.prog X.w) X.A X.env xe → PXSs (X.tr pn xe) W body (liftXS X.K W T) T)
    (hh : ∀ C, (∃ c ∈ cs, PySem.W.nsIn X.K mainGlobals c = some (some (.ref C))) → Hits X tt (.ref C))
    (sw : swapsWith (.Name n p2) (some (.Name y p1)) p3.line X.env = pure false := by rfl) (hd : (n == ("__debug__" : Str)) = false := by decide) (hcd : (n == ("__classdict__" : Str)) = false := by decide) (hU : unl ∉ cs := by decide) :
    PPS X (.Try body [.ExceptHandler (some tt) (some n) [.Assign [.Name y p1] (.Name n p2) p3] pos'] [] [] pos) (fun D σ H => liftXS X.K (wKeep i j (fun C => ∃ c ∈ cs, PySem.W.nsIn X.K mainGlobals c = some (some (.ref C))) D) T D σ H) (pTry i j cs T) :=
  ⟨ps_try_keep (tb := fun W => liftXS X.K W T) hs hf hex hN hi hj hln hly (fun W pn xe tk po => (hb W pn xe tk po).ps) hh sw hd hcd, fun G F H σ ρ P D S hT r => by
    refine ⟨G, F, ρ, P, _, S, hT, r, fun F' H' σ' ρ' cls d x u S' xr q => ?_⟩
    obtain ⟨C, h2, h⟩ := xr
    obtain ⟨h1, dd, v, h3, h4, h5⟩ : PySem.W.nsIn X.K mainGlobals x.c = some (some (.ref C)) ∧ ∃ (dd : Addr) (v : V), d = some dd ∧ F' dd = some (.xd [(xfield x.c, v)]) ∧ Rep X.K F' v x.y := by
      rcases h with h | h
      · exact h.2
      · exact absurd (h.1 ▸ q.1) hU
    refine ⟨C, dd, h2, h3, ⟨x.c, q.1, h1⟩, fun a na => ?_⟩
    have fa : F' a = none := S'.freshF na
    have S1 := S'.new (o := exk a C dd) na
    have rp : Rep X.K (upd F' a (exk a C dd)) (.ref a) (.exc x.c x.y) := .exc h1 upd_same (by rw [upd_ne (ne_of_none h4 fa)]; exact h4) (h5.mono (same_new fa))
    exact r.nx _ _ _ _ (u.trans (S'.upNew na)) (((S1.setVal i rp).setVal j rp).forget i none) q.2⟩
end
end
section
variable {P : Program} {w : World} {K : PySem.W.Frag} {mg : Str → Option Value} {base : Heap} {x qual : Str} {st : Stmt} {f : Addr} {fd : FuncData} {N ps : List Str} {k : Nat}
theorem okX {g : FX} {T : TXs} (Fn : Fun K x qual st f fd) (S : FnScope N ps (defScope st))
    (hb : ∀ (cdv : Value) (A : Around) (outer : List Env) (s : Shared) (H : Hp) (E : XK), Room k (A.deeper (envOfC qual (defScope st) s.heap.objs.size f cdv)) → ∃ t, PXSs (cxOf (L2.CX P w) P w K mg base N qual (defScope st) f cdv A outer s H E) (fun cls d _ H => E cls d H) (defBody st) t T)
    (hT : ∀ ds C, ds.length = ps.length → g ds C → T { nx := fun _ => False, rt := fun _ _ => False } (fun x _ => C x) (startA N ds)) : FnOk P w K mg base (L2.CX P w) (k + 1) f fd ps (spX K ps.length g) := by
  refine Fn.okX S (fun vs H Q E h => ?_) (fun cdv A outer s H vs Q E hr h => ?_)
  · obtain ⟨F, ds, C, hl, _⟩ := h
    exact hl
  · obtain ⟨F, ds, C, hl, hF, r, hg, hQ⟩ := h
    obtain ⟨t, ht⟩ := hb cdv A outer s H E hr
    refine ⟨t, ht.ps, ?_⟩
    have S0 : Sim K H F H (L2.start N vs) (startA N ds) := by
      unfold L2.start startA
      rw [r.length]
      exact sim_vals hF (.rfl' F H) r _
    exact ht.snd H F H _ _ _ _ _ S0 (hT ds C (by rw [← r.length]; exact hl) hg) ⟨fun _ _ _ _ _ _ q => q.elim, fun _ _ _ _ _ _ _ _ q => q.elim, fun _ _ _ _ _ _ q => q, fun _ _ _ _ _ _ q => q⟩
      fun F' H' σ' ρ' cls d x u S' xr q => hQ x cls d F' H' u S'.hF S'.hG xr q
end
end Pl
namespace Pl
open PySem PySem.Spec PyProof.Rows L2
variable [TJ]
def liftI (K : PySem.W.Frag) (T : TAp) : TI := fun σ H R => ∃ (G F : Hp) (ρ : Ro) (Q : List D → Ro → Prop), Sim K G F H σ ρ ∧ T ρ Q ∧ ∀ J ds F' H' ρ', Up G F F' → Sim K G F' H' σ ρ' → ItRep K J F' ds → Q ds ρ' → R J H'
theorem PPI.lift {X : Cx} {tg iter : Expr} {wi : TI} {T : TAp} (h : PPI X tg iter wi T) : PPI X tg iter (liftI X.K T) T :=
  ⟨⟨fun pins s σ H R I ⟨G, F, ρ, Q', S, hT, k⟩ => h.pi.run pins s σ H R I (h.snd G F H σ ρ Q' R S hT k)⟩, fun G F H σ ρ Q R S hT k => ⟨G, F, ρ, Q, S, hT, k⟩⟩
end Pl
namespace Pl
open PySem PySem.Spec PyProof.Rows L2
mutual
def noL : D → Bool
  | .non => true
  | .bl _ => true
  | .int _ => true
  | .str _ => true
  | .tup xs => noLs xs
  | _ => false
def noLs : List D → Bool
  | [] => true
  | x :: xs => noL x && noLs xs
end
section
variable {K : PySem.W.Frag} {F F' : Hp}
mutual
theorem Rep.noDrop (e : ∀ b xs, F b = some (.tup xs) → F' b = some (.tup xs)) : ∀ {v : V} {d : D}, Rep K F v d → noL d = true → Rep K F' v d
  | _, _, .non, _ => .non
  | _, _, .bl b, _ => .bl b
  | _, _, .int i, _ => .int i
  | _, _, .str x, _ => .str x
  | _, _, .tup h r, n => .tup (e _ _ h) (Reps.noDrop e r n)
  | _, _, .lst _ _, n => by cases n
  | _, _, .scr _, n => by cases n
  | _, _, .adr _, n => by cases n
  | _, _, .exc _ _ _ _, n => by cases n
theorem Reps.noDrop (e : ∀ b xs, F b = some (.tup xs) → F' b = some (.tup xs)) : ∀ {vs : List V} {ds : List D}, Reps K F vs ds → noLs ds = true → Reps K F' vs ds
  | _, _, .nil, _ => .nil
  | _, _, .cons h r, n => by
    rw [noLs, Bool.and_eq_true] at n
    exact .cons (Rep.noDrop e h n.1) (Reps.noDrop e r n.2)
end
end
end Pl
namespace Pl
open PySem PySem.Spec PyProof.Rows L2
section
variable [TJ] {X : Cx} {W : WX} {body : List Stmt} {f₀ : Stmt} {fs : List Stmt} {rp pos : Pos} {tf tfs : TS} {Ub : TXs} {Tf : TSp} {e : Expr} {Xe : TXe}
def xFin (Tf : TSp) (xx : XP) : XP := fun x ρ => Tf { nx := fun ρ2 => xx x ρ2, rt := fun _ _ => False } ρ
theorem XRel.fin {G F : Hp} {K : PySem.W.Frag} {xx : XP} (hx : XRel K W G F xx) (hs : SndS K tfs Tf) : XRel K (wFin tfs W) G F (xFin Tf xx) := fun F' H' σ' ρ' cls d x u S' xr q =>
  hs G F' H' σ' ρ' _ _ S' q ⟨fun F2 H2 σ2 ρ2 u2 S2 q2 => hx F2 H2 σ2 ρ2 cls d x (u.trans u2) S2 (xr.mono u2.ex) q2, fun _ _ _ _ _ _ _ _ q => q.elim, fun _ _ _ _ _ _ q => q.elim, fun _ _ _ _ _ _ q => q.elim⟩
def liftXE (K : PySem.W.Frag) (W : WX) (T : TXe) : TE := fun σ H R => ∃ (G F : Hp) (ρ : Ro) (xx : XP), Sim K G F H σ ρ ∧ T ρ xx ∧ XRel K W G F xx
theorem PXE.lift {t : TE} (h : PXE X W e t Xe) : PXE X W e (liftXE X.K W Xe) Xe :=
  ⟨⟨fun pins s σ H Q I ⟨G, F, ρ, xx, S, hT, hx⟩ => h.pe.run pins s σ H Q I (h.snd G F H σ ρ xx Q S hT hx)⟩, fun G F H σ ρ xx R S hT hx => ⟨G, F, ρ, xx, S, hT, hx⟩⟩
end
end Pl
namespace Pl
open PySem PySem.Spec PyProof.Rows L2
def noLF : List (Str × Fd) → Bool
  | [] => true
  | (_, .val d) :: fs => noL d && noLF fs
  | (_, .own _ xs) :: fs => noLs xs && noLF fs
def noLC : Cell → Bool
  | .val d => noL d
  | .own _ xs => noLs xs
  | .box (.ins _ _ _ fs) => noLF fs
  | .box (.gen g) => g.nl
  | .box _ => false
theorem FsR.noDrop {K : PySem.W.Frag} {F F' H : Hp} (e : ∀ b xs, F b = some (.tup xs) → F' b = some (.tup xs)) : ∀ {vs : List (Str × V)} {fs : List (Str × Fd)}, FsR K F H vs fs → noLF fs = true → FsR K F' H vs fs
  | [], [], _, _ => trivial
  | p :: ps, (x, .val d) :: fs, h, n => by
    rw [noLF, Bool.and_eq_true] at n
    exact ⟨h.1, Rep.noDrop e h.2.1 n.1, FsR.noDrop e h.2.2 n.2⟩
  | p :: ps, (x, .own b xs) :: fs, h, n => by
    rw [noLF, Bool.and_eq_true] at n
    obtain ⟨h1, ⟨h2, vs, h3, h4⟩, h5⟩ := h
    exact ⟨h1, ⟨h2, vs, h3, Reps.noDrop e h4 n.1⟩, FsR.noDrop e h5 n.2⟩
  | [], _ :: _, h, _ => h.elim
  | _ :: _, [], h, _ => h.elim
theorem Sh.At.noDrop {K : PySem.W.Frag} {F F' H : Hp} (e : ∀ b xs, F b = some (.tup xs) → F' b = some (.tup xs)) {s : Sh} (n : noLC (.box s) = true) (h : s.At K F H) : s.At K F' H := by
  cases s with
  | ins a C dx fs =>
    obtain ⟨nd, vs, h1, h2, h3⟩ := h
    exact ⟨nd, vs, h1, h2, FsR.noDrop e h3 n⟩
  | dic a ps => exact absurd n (by simp [noLC])
  | dicL a o kvs ps => exact absurd n (by simp [noLC])
  | gen g => exact g.drop n e h
end Pl
namespace Pl
open PySem PySem.Spec PyProof.Rows L2
section
variable {X : Cx} {e : Expr} {te : TE} {Tc : TCp} {G F H : Hp} {σ : L2.St} {ρ : Ro}
theorem Sim.back {K : PySem.W.Frag} {a : Addr} {i : Nat} {us : List V} {xs : List D} {c : Cell} {v : V} {F' H' : Hp} {ρ1 : Ro} (S' : Sim K (upd G a (.lst us)) F' H' (σ ++ [some v]) (ρ1 ++ [some c])) (hi : i < ρ1.length) (hσ : σ[i]? = some (some (.ref a))) (ga : G a = none) (r : Reps K (hide F' a) us xs)
    (hc : noLC c = true) (hr : ∀ j x, j ≠ i → ρ1[j]? = some (some x) → noLC x = true) (tups : ∀ b ys, F' b = some (.tup ys) → hide F' a b = some (.tup ys)) : Sim K G (hide F' a) H' (σ ++ [some v]) (ρ1.set i (some (.own a xs)) ++ [some c]) := by
  have ha0 : hide F' a a = none := by unfold hide; rw [if_pos rfl]
  have none' : ∀ {p : Addr}, F' p = none → hide F' a p = none := fun {p} z => by
    by_cases n : p = a
    · subst n; exact ha0
    · unfold hide; rw [if_neg n]; exact z
  have gone : ∀ {p : Addr}, upd G a (.lst us) p = none → G p = none ∧ p ≠ a := fun {p} z => by
    by_cases n : p = a
    · subst n; rw [upd_same] at z; cases z
    · rw [upd_ne n] at z; exact ⟨z, n⟩
  have hσi : (σ ++ [some v])[i]? = some (some (.ref a)) := by
    rw [List.getElem?_append_left (by rcases Nat.lt_or_ge i σ.length with z | z; exact z; rw [List.getElem?_eq_none z] at hσ; cases hσ)]; exact hσ
  have far : ∀ {j : Nat} {x : Cell}, (ρ1.set i (some (.own a xs)) ++ [some c])[j]? = some (some x) → ((ρ1 ++ [some c])[j]? = some (some x) ∧ j ≠ i ∧ noLC x = true) ∨ (j = i ∧ x = .own a xs) := fun {j x} h => by
    by_cases hj : j = i
    · subst hj
      rw [List.getElem?_append_left (by simpa using hi), List.getElem?_set_self hi] at h
      cases h
      exact .inr ⟨rfl, rfl⟩
    · refine .inl ?_
      rcases Nat.lt_or_ge j ρ1.length with z | z
      · rw [List.getElem?_append_left (by simpa using z), List.getElem?_set_ne fun q => hj q.symm] at h
        exact ⟨by rw [List.getElem?_append_left z]; exact h, hj, hr j x hj h⟩
      · rw [List.getElem?_append_right (by simpa using z), List.length_set] at h
        refine ⟨by rw [List.getElem?_append_right z]; exact h, hj, ?_⟩
        cases k : j - ρ1.length with
        | zero => rw [k] at h; cases h; exact hc
        | succ m => rw [k] at h; cases h
  refine ⟨fun b o z => S'.hF b o (hide_same F' a b o z), ⟨fun b o z => S'.hG.same b o (by rw [upd_ne fun n => by subst n; rw [ga] at z; cases z]; exact z), trivial⟩, by simpa using S'.len, fun j d h => ?_, fun j b ys h => ?_, fun j k b ys zs q1 q2 => ?_, ⟨fun j t h => ?_, fun j k t w p q1 q2 m1 m2 => ?_, fun j b ys q m => ?_⟩⟩
  · rcases far h with ⟨h, _, n⟩ | ⟨_, z⟩
    · obtain ⟨w, k1, k2⟩ := S'.val j d h
      exact ⟨w, k1, Rep.noDrop tups k2 n⟩
    · cases z
  · rcases far h with ⟨h, _, n⟩ | ⟨rfl, z⟩
    · obtain ⟨k1, k2, k3, vs, k4, k5⟩ := S'.own j b ys h
      exact ⟨k1, none' k2, (gone k3).1, vs, k4, Reps.noDrop tups k5 n⟩
    · cases z
      exact ⟨hσi, ha0, ga, us, S'.hG.same a _ upd_same, r⟩
  · rcases far q1 with ⟨h1, _, _⟩ | ⟨rfl, z1⟩
    · rcases far q2 with ⟨h2, _, _⟩ | ⟨rfl, z2⟩
      · exact S'.ne j k b ys zs h1 h2
      · cases z2
        exact absurd rfl (gone (S'.own j _ _ h1).2.2.1).2
    · cases z1
      rcases far q2 with ⟨h2, _, _⟩ | ⟨rfl, z2⟩
      · exact absurd rfl (gone (S'.own k _ _ h2).2.2.1).2
      · rfl
  · rcases far h with ⟨h, _, n⟩ | ⟨_, z⟩
    · obtain ⟨k1, k2, k3⟩ := S'.bx.box j t h
      exact ⟨k1, fun p m => ⟨none' (k2 p m).1, (gone (k2 p m).2).1⟩, Sh.At.noDrop tups n k3⟩
    · cases z
  · rcases far q1 with ⟨h1, _, _⟩ | ⟨_, z⟩
    · rcases far q2 with ⟨h2, _, _⟩ | ⟨_, z⟩
      · exact S'.bx.bb j k t w p h1 h2 m1 m2
      · cases z
    · cases z
  · obtain ⟨k, t, q2, m2⟩ := m
    rcases far q2 with ⟨h2, _, _⟩ | ⟨_, z⟩
    · rcases far q with ⟨h1, _, _⟩ | ⟨_, z⟩
      · exact S'.bx.bo j b ys h1 ⟨k, t, h2, m2⟩
      · cases z
        exact (gone ((S'.bx.box k t h2).2.1 _ m2).2).2 rfl
    · cases z
end
end Pl
namespace Pl
open PySem PySem.Spec PyProof.Rows L2
variable [TJ]
def Cell.foot : Cell → List Addr
  | .val _ => []
  | .own p _ => [p]
  | .box s => s.foot
def CellB (K : PySem.W.Frag) (G F H : Hp) (ρ : Ro) (v : V) (c : Cell) : Prop := (match c with
  | .val d => Rep K F v d
  | .own p xs => v = .ref p ∧ ∃ us, H p = some (.lst us) ∧ Reps K F us xs
  | .box s => v = .ref s.root ∧ s.At K F H) ∧ ∀ p ∈ c.foot, F p = none ∧ G p = none ∧ NotOwn ρ p
def CellsB (K : PySem.W.Frag) (G F H : Hp) (ρ : Ro) : List V → List Cell → Prop
  | [], [] => True
  | v :: vs, c :: cs => CellB K G F H ρ v c ∧ CellsB K G F H ρ vs cs ∧ ∀ p ∈ c.foot, ∀ c' ∈ cs, p ∉ c'.foot
  | _, _ => False
section
variable {K : PySem.W.Frag} {G G' F F' H H' : Hp} {σ : L2.St} {ρ ρ' : Ro} {v : V} {c c' : Cell}
theorem CellB.live (h : CellB K G F H ρ v c) {p : Addr} (m : p ∈ c.foot) : ∃ o, H p = some o ∧ Mut o := by
  cases c with
  | val d => exact absurd m List.not_mem_nil
  | own q xs =>
    obtain ⟨⟨_, us, h1, _⟩, _⟩ := h
    rw [List.mem_singleton.mp m]
    exact ⟨_, h1, trivial⟩
  | box s => exact h.1.2.mut m
theorem CellB.to (h : CellB K G F H ρ v c) (hs : Same F F') (hp : ∀ p ∈ c.foot, F' p = none ∧ G' p = none ∧ NotOwn ρ' p ∧ H' p = H p) : CellB K G' F' H' ρ' v c := by
  refine ⟨?_, fun p m => ⟨(hp p m).1, (hp p m).2.1, (hp p m).2.2.1⟩⟩
  cases c with
  | val d => exact h.1.mono hs
  | own q xs =>
    obtain ⟨⟨h0, us, h1, h2⟩, _⟩ := h
    exact ⟨h0, us, by rw [(hp q (List.mem_singleton.mpr rfl)).2.2.2]; exact h1, h2.mono hs⟩
  | box s => exact ⟨h.1.1, h.1.2.mono hs fun p m => (hp p m).2.2.2⟩
theorem CellB.more {p : Addr} {o : HO} (h : CellB K G F H ρ v c) (hp : H p = none) : CellB K G F (upd H p o) ρ v c := h.to (.refl _) fun q m => by
  obtain ⟨x, hx, _⟩ := h.live m
  exact ⟨(h.2 q m).1, (h.2 q m).2.1, (h.2 q m).2.2, upd_ne (ne_of_none hx hp)⟩
theorem Sim.putB (S : Sim K G F H σ ρ) (i : Nat) (h : CellB K G F H ρ v c) : Sim K G F H (σ.set i (some v)) (ρ.set i (some c)) := by
  obtain ⟨h, hf⟩ := h
  cases c with
  | val d => exact S.setVal i h
  | own p xs =>
    obtain ⟨rfl, us, h5, h6⟩ := h
    obtain ⟨h2, h3, h4⟩ := hf p (List.mem_singleton.mpr rfl)
    exact S.setOwn i h5 h2 h3 h4 h6
  | box s =>
    obtain ⟨rfl, ha⟩ := h
    exact S.setBox i (fun p m => ⟨(hf p m).1, (hf p m).2.1⟩) ha fun p m => (hf p m).2.2
theorem NotOwn.putB {p : Addr} {i : Nat} (h : NotOwn ρ p) (n : p ∉ c.foot) : NotOwn (ρ.set i (some c)) p := by
  have far : ∀ {j : Nat} {x : Cell}, (ρ.set i (some c))[j]? = some (some x) → x = c ∨ ρ[j]? = some (some x) := fun {j x} e => by
    by_cases hj : i = j
    · subst hj
      by_cases hi : i < ρ.length
      · rw [List.getElem?_set_self hi] at e
        cases e; exact .inl rfl
      · rw [List.getElem?_eq_none (by simpa using hi)] at e; cases e
    · rw [List.getElem?_set_ne hj] at e; exact .inr e
  refine ⟨fun j ys e => ?_, fun ⟨j, s, e, m⟩ => ?_⟩
  · rcases far e with z | z
    · subst z; exact n (List.mem_singleton.mpr rfl)
    · exact h.1 j ys z
  · rcases far e with z | z
    · subst z; exact n m
    · exact h.2 ⟨j, s, z, m⟩
theorem CellB.put {i : Nat} (h : CellB K G F H ρ v c) (hd : ∀ p ∈ c.foot, p ∉ c'.foot) : CellB K G F H (ρ.set i (some c')) v c :=
  h.to (.refl _) fun p m => ⟨(h.2 p m).1, (h.2 p m).2.1, (h.2 p m).2.2.putB (hd p m), rfl⟩
theorem CellsB.len : ∀ {vs : List V} {cs : List Cell}, CellsB K G F H ρ vs cs → vs.length = cs.length
  | [], [], _ => rfl
  | _ :: _, _ :: _, h => congrArg (· + 1) (CellsB.len h.2.1)
  | [], _ :: _, h => h.elim
  | _ :: _, [], h => h.elim
theorem CellsB.less (e : Same G' G) : ∀ {vs : List V} {cs : List Cell}, CellsB K G F H ρ vs cs → CellsB K G' F H ρ vs cs
  | [], [], _ => trivial
  | _ :: _, _ :: _, h => ⟨h.1.to (.refl _) fun p m => ⟨(h.1.2 p m).1, e.free (h.1.2 p m).2.1, (h.1.2 p m).2.2, rfl⟩, CellsB.less e h.2.1, h.2.2⟩
  | [], _ :: _, h => h.elim
  | _ :: _, [], h => h.elim
theorem CellsB.foot : ∀ {vs : List V} {cs : List Cell}, CellsB K G F H ρ vs cs → ∀ c ∈ cs, ∀ p ∈ c.foot, G p = none
  | [], [], _, c, h => absurd h List.not_mem_nil
  | _ :: _, x :: _, h, c, m => by
    rcases List.mem_cons.mp m with rfl | m
    · exact fun p q => (h.1.2 p q).2.1
    · exact CellsB.foot h.2.1 c m
  | [], _ :: _, h, _, _ => h.elim
  | _ :: _, [], h, _, _ => h.elim
theorem Sim.lastB (S : Sim K G F H (σ ++ [some v]) (ρ ++ [some c])) : CellB K G F H ρ v c := by
  cases c with
  | val d => exact ⟨S.lastVal, fun p m => absurd m List.not_mem_nil⟩
  | own p xs =>
    obtain ⟨h1, h2, h3, h4, us, h5, h6⟩ := S.lastOwn
    exact ⟨⟨h1, us, h5, h6⟩, fun q m => by rw [List.mem_singleton.mp m]; exact ⟨h2, h3, h4⟩⟩
  | box s =>
    obtain ⟨h1, h2, h3, h4⟩ := S.lastBox
    exact ⟨⟨h1, h3⟩, fun q m => ⟨(h2 q m).1, (h2 q m).2, h4 q m⟩⟩
def guardF (G H : Hp) (as : List Addr) : Hp := fun b => if b ∈ as then H b else G b
theorem guardF_in {as : List Addr} {b : Addr} (h : b ∈ as) : guardF G H as b = H b := by unfold guardF; rw [if_pos h]
theorem guardF_out {as : List Addr} {b : Addr} (h : b ∉ as) : guardF G H as b = G b := by unfold guardF; rw [if_neg h]
theorem CellB.same (h : CellB K G F H ρ v c) : Same G (guardF G H c.foot) := fun b o e => by
  by_cases m : b ∈ c.foot
  · rw [(h.2 b m).2.1] at e; cases e
  · rw [guardF_out m]; exact e
theorem Sim.guardB (S : Sim K G F H σ ρ) (h : CellB K G F H ρ v c) : Sim K (guardF G H c.foot) F H σ ρ := by
  refine ⟨S.hF, ⟨fun b o e => ?_, TJ.frame S.hG.tj fun b o e => ?_⟩, S.len, S.val, fun i b ys q => ?_, S.ne, S.bx.heap (.refl _) fun p m => ⟨(S.bx.free m).1, ?_, rfl⟩⟩
  · by_cases m : b ∈ c.foot
    · rw [guardF_in m] at e; exact e
    · rw [guardF_out m] at e; exact S.hG b o e
  · by_cases m : b ∈ c.foot
    · exact .inr (h.live m)
    · rw [guardF_out m] at e; exact .inl e
  · obtain ⟨g1, g2, g3, g4⟩ := S.own i b ys q
    exact ⟨g1, g2, by rw [guardF_out fun m => (h.2 b m).2.2.1 i ys q]; exact g3, g4⟩
  · rw [guardF_out fun z => (h.2 p z).2.2.2 m]; exact (S.bx.free m).2.1
theorem Sim.unguardB (S : Sim K G' F H σ ρ) (e : Same G G') : Sim K G F H σ ρ :=
  ⟨S.hF, S.hG.less e, S.len, S.val, fun i b ys q => by
    obtain ⟨g1, g2, g3, g4⟩ := S.own i b ys q
    exact ⟨g1, g2, e.free g3, g4⟩, S.ne, S.bx.unguard e⟩
theorem CellB.kept {F2 H2 : Hp} {σ2 : L2.St} {ρ2 : Ro} (h : CellB K G F H ρ v c) (u : Up (guardF G H c.foot) F F2) (S2 : Sim K (guardF G H c.foot) F2 H2 σ2 ρ2) : CellB K G F2 H2 ρ2 v c := h.to u.ex fun p m => by
  obtain ⟨o, ho, _⟩ := h.live m
  have hg : guardF G H c.foot p = some o := by rw [guardF_in m]; exact ho
  refine ⟨u.isNone (h.2 p m).1 hg, (h.2 p m).2.1, ⟨fun i ys q => ?_, S2.bx.notG hg⟩, by rw [ho]; exact S2.hG p o hg⟩
  have := (S2.own i p ys q).2.2.1
  rw [hg] at this; cases this
end
def SndBs (K : PySem.W.Frag) (t : TA) (T : TCs) : Prop := ∀ (G F H : Hp) (σ : L2.St) (ρ : Ro) (Q : List Cell → Ro → Prop) (R : List V → Hp → Prop), Sim K G F H σ ρ → T ρ Q →
  (∀ vs cs F' H' ρ', Up G F F' → Sim K G F' H' σ ρ' → CellsB K G F' H' ρ' vs cs → Q cs ρ' → R vs H') → t σ H R
structure PPBs (X : Cx) (es : List Expr) (t : TA) (T : TCs) : Prop where
  pa : PA X es t
  snd : SndBs X.K t T
section
variable {X : Cx} {e : Expr} {es : List Expr} {te : TE} {t : TA} {T : TCs} {Tc : TCp} {pos : Pos}
def pConsB (Tc : TCp) (T : TCs) : TCs := fun ρ Q => Tc ρ fun c ρ1 => T ρ1 fun cs ρ2 => Q (c :: cs) ρ2
theorem ppbs_nil : PPBs X [] tNil pNilC := ⟨pa_nil, fun G F H σ ρ Q R S hT k => k [] [] F H ρ (.refl _ _) S trivial hT⟩
theorem ppbs_cons (h1 : PPC X e te Tc) (h2 : PPBs X es t T) (hs : starEach (e :: es) X.env = (false, eval e X.env) :: starEach es X.env := by rfl) : PPBs X (e :: es) (tCons te t) (pConsB Tc T) := ⟨pa_cons h1.pe h2.pa hs, fun G F H σ ρ Q R S hT k =>
  h1.snd G F H σ ρ _ _ S hT fun v c F1 H1 ρ1 u1 S1 q1 => by
    have hc := S1.lastB
    refine h2.snd _ F1 H1 σ ρ1 _ _ (S1.drop.guardB hc) q1 fun vs cs F2 H2 ρ2 u2 S2 o2 q2 => ?_
    have hc2 := hc.kept u2 S2
    refine k (v :: vs) (c :: cs) F2 H2 ρ2 (u1.trans (u2.less hc.same)) (S2.unguardB hc.same) ⟨hc2, o2.less hc.same, fun p m c' m' z => ?_⟩ q2
    have h0 := o2.foot c' m' p z
    rw [guardF_in m] at h0
    obtain ⟨o, ho, _⟩ := hc.live m
    rw [h0] at ho; cases ho⟩
end
end Pl
namespace Pl
open PySem PySem.Spec PyProof.Rows L2
def Cell.root : Cell → Addr
  | .val _ => 0
  | .own p _ => p
  | .box s => s.root
def CellF (K : PySem.W.Frag) (G F H : Hp) (v : V) (c : Cell) : Prop := (match c with
  | .val d => Rep K F v d
  | .own p xs => v = .ref p ∧ ∃ us, H p = some (.lst us) ∧ Reps K F us xs
  | .box s => v = .ref s.root ∧ s.At K F H) ∧ ∀ p ∈ c.foot, F p = none ∧ G p = none
section
variable {K : PySem.W.Frag} {G G' F F' H H' : Hp} {σ σ' : L2.St} {ρ ρ' : Ro} {v : V} {c c' : Cell} {i j : Nat}
theorem CellF.live (h : CellF K G F H v c) {p : Addr} (m : p ∈ c.foot) : ∃ o, H p = some o ∧ Mut o := by
  cases c with
  | val d => exact absurd m List.not_mem_nil
  | own q xs =>
    obtain ⟨⟨_, us, h1, _⟩, _⟩ := h
    rw [List.mem_singleton.mp m]
    exact ⟨_, h1, trivial⟩
  | box s => exact h.1.2.mut m
theorem CellF.to (h : CellF K G F H v c) (hs : Same F F') (hp : ∀ p ∈ c.foot, F' p = none ∧ G' p = none ∧ H' p = H p) : CellF K G' F' H' v c := by
  refine ⟨?_, fun p m => ⟨(hp p m).1, (hp p m).2.1⟩⟩
  cases c with
  | val d => exact h.1.mono hs
  | own q xs =>
    obtain ⟨⟨h0, us, h1, h2⟩, _⟩ := h
    exact ⟨h0, us, by rw [(hp q (List.mem_singleton.mpr rfl)).2.2]; exact h1, h2.mono hs⟩
  | box s => exact ⟨h.1.1, h.1.2.mono hs fun p m => (hp p m).2.2⟩
end
section
variable [TJ] {K : PySem.W.Frag} {G G' F F' H H' : Hp} {σ σ' : L2.St} {ρ ρ' : Ro} {v : V} {c c' : Cell} {i j : Nat}
theorem Sim.cell (S : Sim K G F H σ ρ) (e : ρ[i]? = some (some c)) : ∃ v, σ[i]? = some (some v) ∧ CellF K G F H v c := by
  cases c with
  | val d =>
    obtain ⟨v, h1, h2⟩ := S.val i d e
    exact ⟨v, h1, h2, fun p m => absurd m List.not_mem_nil⟩
  | own p xs =>
    obtain ⟨h1, h2, h3, us, h4, h5⟩ := S.own i p xs e
    exact ⟨_, h1, ⟨rfl, us, h4, h5⟩, fun q m => by rw [List.mem_singleton.mp m]; exact ⟨h2, h3⟩⟩
  | box s =>
    obtain ⟨h1, h2, h3⟩ := S.bx.box i s e
    exact ⟨_, h1, ⟨rfl, h3⟩, h2⟩
theorem Sim.apart (S : Sim K G F H σ ρ) (e1 : ρ[i]? = some (some c)) (e2 : ρ[j]? = some (some c')) {p : Addr} (m1 : p ∈ c.foot) (m2 : p ∈ c'.foot) : i = j := by
  cases c with
  | val d => exact absurd m1 List.not_mem_nil
  | own q xs =>
    cases List.mem_singleton.mp m1
    cases c' with
    | val d => exact absurd m2 List.not_mem_nil
    | own q' ys =>
      cases List.mem_singleton.mp m2
      exact S.ne _ _ _ _ _ e1 e2
    | box s => exact absurd ⟨j, s, e2, m2⟩ (S.bx.bo i _ xs e1)
  | box s =>
    cases c' with
    | val d => exact absurd m2 List.not_mem_nil
    | own q' ys =>
      cases List.mem_singleton.mp m2
      exact absurd ⟨i, s, e1, m1⟩ (S.bx.bo j _ ys e2)
    | box t => exact S.bx.bb i j s t p e1 e2 m1 m2
theorem Sim.of (hF : Same F H) (hG : SameJ G F H) (len : σ.length = ρ.length) (cell : ∀ (i : Nat) (c : Cell), ρ[i]? = some (some c) → ∃ v, σ[i]? = some (some v) ∧ CellF K G F H v c)
    (ap : ∀ (i j : Nat) (c c' : Cell) (p : Addr), ρ[i]? = some (some c) → ρ[j]? = some (some c') → p ∈ c.foot → p ∈ c'.foot → i = j) : Sim K G F H σ ρ := by
  refine ⟨hF, hG, len, fun i d e => ?_, fun i a xs e => ?_, fun i j a xs ys e1 e2 => ap i j _ _ a e1 e2 (List.mem_singleton.mpr rfl) (List.mem_singleton.mpr rfl), fun i s e => ?_, fun i j s t p e1 e2 m1 m2 => ap i j _ _ p e1 e2 m1 m2, fun j a xs e ⟨i, s, e2, m⟩ => ?_⟩
  · obtain ⟨v, h1, h2, _⟩ := cell i _ e
    exact ⟨v, h1, h2⟩
  · obtain ⟨v, h1, ⟨h2, us, h3, h4⟩, h5⟩ := cell i _ e
    subst h2
    exact ⟨h1, (h5 a (List.mem_singleton.mpr rfl)).1, (h5 a (List.mem_singleton.mpr rfl)).2, us, h3, h4⟩
  · obtain ⟨v, h1, ⟨h2, h3⟩, h5⟩ := cell i _ e
    subst h2
    exact ⟨h1, h5, h3⟩
  · have := ap i j _ _ a e2 e m (List.mem_singleton.mpr rfl)
    subst this
    rw [e] at e2; cases e2
end
section
variable {K : PySem.W.Frag} {G F H : Hp} {σ : L2.St} {ρ : Ro} {c c' : Cell} {i j : Nat}
theorem SimR.cell (S : SimR K G F H σ ρ) (e : ρ[i]? = some (some c)) : ∃ v, σ[i]? = some (some v) ∧ CellF K G F H v c := @Sim.cell tj0 _ _ _ _ _ _ _ _ (@SimR.sim _ _ _ _ _ _ S) e
theorem SimR.apart (S : SimR K G F H σ ρ) (e1 : ρ[i]? = some (some c)) (e2 : ρ[j]? = some (some c')) {p : Addr} (m1 : p ∈ c.foot) (m2 : p ∈ c'.foot) : i = j := @Sim.apart tj0 _ _ _ _ _ _ _ _ _ _ (@SimR.sim _ _ _ _ _ _ S) e1 e2 _ m1 m2
theorem SimR.of (hF : Same F H) (hG : Same G H) (len : σ.length = ρ.length) (cell : ∀ (i : Nat) (c : Cell), ρ[i]? = some (some c) → ∃ v, σ[i]? = some (some v) ∧ CellF K G F H v c)
    (ap : ∀ (i j : Nat) (c c' : Cell) (p : Addr), ρ[i]? = some (some c) → ρ[j]? = some (some c') → p ∈ c.foot → p ∈ c'.foot → i = j) : SimR K G F H σ ρ :=
  @Sim.raw tj0 _ _ _ _ _ _ (@Sim.of tj0 _ _ _ _ _ _ hF (SameJ.of hG) len cell ap)
end
def feet (cs : List Cell) : List Addr := cs.flatMap Cell.foot
inductive NamesAt (X : Cx) : List Nat → List Expr → Prop where
  | nil : NamesAt X [] []
  | cons {i : Nat} {y : Str} {py : Pos} {is : List Nat} {es : List Expr} (hN : X.N[i]? = some y) (hv : Vis X.env.scope y) (hd : (y == ("__debug__" : Str)) = false) (hcd : (y == ("__classdict__" : Str)) = false) (r : NamesAt X is es) : NamesAt X (i :: is) (.Name y py :: es)
def tVars : List Nat → TA → TA
  | [], t => t
  | i :: is, t => tCons (tVar i) (tVars is t)
section
variable [TJ] {X : Cx} {k : Nat} {f : Addr} {fd : FuncData} {ps : List Str} {x : Str} {p pos : Pos} {ns es : List Expr} {t : TA} {T : TAp} {n : Nat} {is : List Nat}
theorem NamesAt.pa (h : NamesAt X is ns) (ha : PA X es t) (he : ∀ (y : Str) (py : Pos) (l : List Expr), starEach (.Name y py :: l) X.env = (false, eval (.Name y py) X.env) :: starEach l X.env) : PA X (ns ++ es) (tVars is t) := by
  induction h with
  | nil => exact ha
  | cons hN hv hd hcd r ih => exact pa_cons (pe_var hN hv hd hcd) ih (he _ _ _)
end
end Pl
namespace Pl
open PySem PySem.Spec PyProof.Rows L2 LamX
abbrev NFn := NdefX.NF
end Pl
namespace Pl
open PySem PySem.Spec PyProof.Rows L2 LamX
theorem code_noDic {c : Addr} {q : Str} : ¬ Mut (CodeO c q) := fun ⟨a, z⟩ => by
  let ob : Obj := ⟨.none, none, .fields #[.none, .str q 0], #[]⟩
  let h : Heap := ⟨Array.replicate (c + 1) ob, {}⟩
  have get : ∀ b o, h.get? b = some o → o = ob := fun b o e => by
    unfold Heap.get? at e
    by_cases hb : b < c + 1
    · have : h.objs[b]? = some ob := by show (Array.replicate (c + 1) ob)[b]? = some ob; rw [Array.getElem?_replicate, if_pos hb]
      rw [this] at e
      exact (Option.some.inj e).symm
    · have : h.objs[b]? = none := by show (Array.replicate (c + 1) ob)[b]? = none; rw [Array.getElem?_replicate, if_neg hb]
      rw [this] at e; cases e
  have at' : h.get? c = some ob := by
    unfold Heap.get?
    have : h.objs[c]? = some ob := by show (Array.replicate (c + 1) ob)[c]? = some ob; rw [Array.getElem?_replicate, if_pos (Nat.lt_succ_self c)]
    rw [this]
  obtain ⟨o, es, ep, h1, h2⟩ := z h ⟨ob, #[.none, .str q 0], 0, at', rfl, rfl⟩
  rw [get a o h1] at h2
  cases h2
@[reducible] def tjTab (T : List NdefX.NTab) : TJ where
  J := fun G F H => (∀ p ∈ T, F p.1 = none ∧ G p.1 = none) ∧ NdefX.TabsN T H
  step := fun {G F F' H H'} ⟨h1, h2⟩ e f => by
    have tb : ∀ p ∈ T, ∃ ps, H p.1 = some (.tbl ps) := fun p hp => by
      obtain ⟨ps, q, _⟩ := h2 p hp
      exact ⟨ps, q⟩
    refine ⟨fun p hp => ⟨?_, (h1 p hp).2⟩, fun p hp => ?_⟩
    · cases q : F' p.1 with
      | none => rfl
      | some o =>
        obtain ⟨ps, hP⟩ := tb p hp
        rcases f p.1 o q with z | z | ⟨vs, z, m⟩
        · rw [(h1 p hp).1] at z; cases z
        · rw [hP] at z; cases z
        · rw [hP] at z; cases z; exact m.elim
    · obtain ⟨ps, g1, g2, g3⟩ := h2 p hp
      refine ⟨ps, e _ _ g1 (fun z => z), g2, fun at2 cv z => ?_⟩
      obtain ⟨c, y1, y2⟩ := g3 at2 cv z
      exact ⟨c, y1, e _ _ y2 code_noDic⟩
  frame := fun {G G' F H} ⟨h1, h2⟩ f => ⟨fun p hp => ⟨(h1 p hp).1, by
    cases q : G' p.1 with
    | none => rfl
    | some o =>
      obtain ⟨ps, hP, _⟩ := h2 p hp
      rcases f p.1 o q with z | ⟨vs, z, m⟩
      · rw [(h1 p hp).2] at z; cases z
      · rw [hP] at z; cases z; exact m.elim⟩, h2⟩
end Pl
namespace L2
open PySem PySem.W PySem.Calls PyProof.Rows PySem.Spec
theorem ObjOk.obj {P : Program} {w : World} {H : Hp} {h : Heap} {a : Addr} {o : HO} (x : ObjOk P w H h a o) : ∃ u, h.get? a = some u := by
  cases o with
  | lst xs => obtain ⟨_, _, _, _, e⟩ := x; exact ⟨_, e⟩
  | tup xs => obtain ⟨_, _, _, p⟩ := x; obtain ⟨o, e, _⟩ := p; exact ⟨_, e⟩
  | dK kvs => obtain ⟨_, _, _, _, o, _, _, e, _⟩ := x; exact ⟨_, e⟩
  | dT kvs => obtain ⟨_, _, _, _, o, _, _, e, _⟩ := x; exact ⟨_, e⟩
  | set S n => obtain ⟨o, _, _, _, e, _⟩ := x; exact ⟨_, e⟩
  | ins C dx fs => obtain ⟨_, _, _, e, _⟩ := x; exact ⟨_, e⟩
  | own y => exact x
  | xd fs => obtain ⟨_, ⟨_, _, _, e, _⟩, _⟩ := x; exact ⟨_, e⟩
  | rng lo hi => obtain ⟨_, _, _, e⟩ := x; exact ⟨_, e⟩
  | frz ob u => obtain ⟨e, _⟩ := x; exact ⟨_, e⟩
  | tbl ps => exact ⟨_, show h.get? a = some _ from x⟩
  | met f y => exact ⟨_, show h.get? a = some _ from x⟩
  | ext φ => obtain ⟨_, ⟨_, e⟩, _⟩ := x; exact ⟨_, e⟩
end L2
namespace Pl
open PySem PySem.Spec PyProof.Rows L2
theorem Reps.zip {K : PySem.W.Frag} {F : Hp} : ∀ {vs : List V} {ds : List D}, Reps K F vs ds → (vs.zip ds).map Prod.fst = vs ∧ (vs.zip ds).map Prod.snd = ds ∧ ∀ p ∈ vs.zip ds, Rep K F p.1 p.2
  | _, _, .nil => ⟨rfl, rfl, fun p h => by cases h⟩
  | _, _, .cons h t => by
    obtain ⟨h1, h2, h3⟩ := Reps.zip t
    refine ⟨by rw [List.zip_cons_cons, List.map_cons, h1], by rw [List.zip_cons_cons, List.map_cons, h2], fun p hp => ?_⟩
    rw [List.zip_cons_cons] at hp
    rcases List.mem_cons.mp hp with rfl | hp
    · exact h
    · exact h3 p hp
end Pl
namespace Pl
open PySem PySem.Spec PyProof.Rows L2
section
variable [TJ]
structure Ns (K : PySem.W.Frag) (G F H : Hp) (ρ : Ro) (q : Addr) (es : List (Addr × List D)) : Prop where
  nf : F q = none
  ng : G q = none
  no : NotOwn ρ q
  hq : H q = some (.lst (es.map fun e => V.ref e.1))
  el : ∀ e ∈ es, NEl K G F H ρ e.1 e.2
  nd : (q :: es.map (·.1)).Nodup
abbrev TNp := Ro → (List (List D) → Ro → Prop) → Prop
section
variable {K : PySem.W.Frag} {G F H F1 H1 : Hp} {σ : L2.St} {ρ ρ1 : Ro} {i : Nat} {q : Addr} {es : List (Addr × List D)}
theorem Nst.ns (N : Nst K G F H σ ρ i q es) : Ns K G F H ρ q es := ⟨N.nf, N.ng, N.no, N.hq, N.el, N.nd⟩
theorem Ns.free (N : Ns K G F H ρ q es) {b : Addr} (h : b ∈ adrs q es) : F b = none ∧ G b = none ∧ NotOwn ρ b ∧ ∃ us, H b = some (.lst us) := by
  rcases List.mem_cons.mp h with e | h
  · subst e; exact ⟨N.nf, N.ng, N.no, _, N.hq⟩
  · obtain ⟨e, he, rfl⟩ := List.mem_map.mp h
    obtain ⟨h1, h2, h3, us, h4, _⟩ := N.el e he
    exact ⟨h1, h2, h3, us, h4⟩
theorem Ns.same {A : Hp} (N : Ns K G F H ρ q es) (h : ∀ b ∈ adrs q es, A b = none) : Same A (plusG A H (adrs q es)) := fun b o e => by
  rw [plus_out fun z => by rw [h b z] at e; cases e]; exact e
theorem Ns.guard (S : Sim K G F H σ ρ) (N : Ns K G F H ρ q es) : Sim K (plusG G H (adrs q es)) F H σ ρ :=
  ⟨S.hF, ⟨fun b o e => by
    by_cases h : b ∈ adrs q es
    · rw [plus_in h] at e; exact e
    · rw [plus_out h] at e; exact S.hG b o e, TJ.frame S.hG.tj fun b o e => by
    by_cases h : b ∈ adrs q es
    · obtain ⟨_, _, _, us, h4⟩ := N.free h
      exact .inr ⟨_, h4, trivial⟩
    · rw [plus_out h] at e; exact .inl e⟩, S.len, S.val, fun j a xs e => by
    obtain ⟨h1, h2, h3, h4⟩ := S.own j a xs e
    exact ⟨h1, h2, by rw [plus_out fun z => (N.free z).2.2.1.1 j xs e]; exact h3, h4⟩, S.ne, S.bx.heap (.refl _) fun p m => ⟨(S.bx.free m).1, by rw [plus_out fun z => (N.free z).2.2.1.2 m]; exact (S.bx.free m).2.1, rfl⟩⟩
theorem Ns.back {σ1 : L2.St} (N : Ns K G F H ρ q es) (u : Up (plusG G H (adrs q es)) F F1) (S1 : Sim K (plusG G H (adrs q es)) F1 H1 σ1 ρ1) : Up G F F1 ∧ Sim K G F1 H1 σ1 ρ1 ∧ Ns K G F1 H1 ρ1 q es := by
  have sm : Same G (plusG G H (adrs q es)) := N.same fun b h => (N.free h).2.1
  have hH : ∀ b ∈ adrs q es, H1 b = H b := fun b h => by
    obtain ⟨_, _, _, us, h4⟩ := N.free h
    rw [h4]; exact S1.hG b _ (by rw [plus_in h]; exact h4)
  have hF1 : ∀ b ∈ adrs q es, F1 b = none := fun b h => by
    obtain ⟨h1, _, _, us, h4⟩ := N.free h
    exact u.isNone h1 (by rw [plus_in h]; exact h4)
  have hn : ∀ b ∈ adrs q es, NotOwn ρ1 b := fun b h => by
    obtain ⟨_, _, _, us, h4⟩ := N.free h
    exact ⟨fun j ys e => (by
      have := (S1.own j b ys e).2.2.1
      rw [plus_in h, h4] at this; cases this), S1.bx.notG (by rw [plus_in h]; exact h4)⟩
  have mq : q ∈ adrs q es := by simp
  have me : ∀ e ∈ es, e.1 ∈ adrs q es := fun e he => List.mem_cons_of_mem _ (List.mem_map.mpr ⟨e, he, rfl⟩)
  refine ⟨u.less sm, ⟨S1.hF, S1.hG.less sm, S1.len, S1.val, fun j a xs e => ?_, S1.ne, S1.bx.unguard sm⟩, ⟨hF1 q mq, N.ng, hn q mq, by rw [hH q mq]; exact N.hq, fun e he => ?_, N.nd⟩⟩
  · obtain ⟨h1, h2, h3, h4⟩ := S1.own j a xs e
    exact ⟨h1, h2, sm.free h3, h4⟩
  · obtain ⟨h1, h2, h3, us, h4, h5⟩ := N.el e he
    exact ⟨hF1 _ (me e he), h2, hn _ (me e he), us, by rw [hH _ (me e he)]; exact h4, h5.mono u.ex⟩
theorem Ns.slots (N : Ns K G F H ρ q es) (h : ∀ b ∈ adrs q es, NotOwn ρ b → NotOwn ρ1 b) : Ns K G F H ρ1 q es :=
  ⟨N.nf, N.ng, h q (by simp) N.no, N.hq, fun e he => by
    obtain ⟨h1, h2, h3, h4⟩ := N.el e he
    exact ⟨h1, h2, h _ (List.mem_cons_of_mem _ (List.mem_map.mpr ⟨e, he, rfl⟩)) h3, h4⟩, N.nd⟩
theorem Ns.push (N : Ns K G F H ρ q es) {a : Addr} {xs : List D} (h : NEl K G F H ρ a xs) (hn : a ∉ adrs q es) : Ns K G F (upd H q (.lst ((es ++ [(a, xs)]).map fun e => V.ref e.1))) ρ q (es ++ [(a, xs)]) := by
  refine ⟨N.nf, N.ng, N.no, upd_same, fun e he => ?_, ?_⟩
  · have ne : e.1 ≠ q := fun z => by
      rcases List.mem_append.mp he with he | he
      · exact (List.nodup_cons.mp N.nd).1 (z ▸ List.mem_map.mpr ⟨e, he, rfl⟩)
      · rw [List.mem_singleton.mp he] at z; exact hn (z ▸ List.mem_cons_self)
    have hh : NEl K G F H ρ e.1 e.2 := by
      rcases List.mem_append.mp he with he | he
      · exact N.el e he
      · rw [List.mem_singleton.mp he]; exact h
    obtain ⟨h1, h2, h3, us, h4, h5⟩ := hh
    exact ⟨h1, h2, h3, us, by rw [upd_ne ne]; exact h4, h5⟩
  · rw [List.map_append]
    show (q :: (es.map (·.1) ++ [a])).Nodup
    have : (q :: (es.map (·.1) ++ [a])) = (q :: es.map (·.1)) ++ [a] := rfl
    rw [this]
    refine List.nodup_append.mpr ⟨N.nd, by simp, fun x hx y hy z => ?_⟩
    rw [List.mem_singleton.mp hy] at z
    exact hn (z ▸ hx)
theorem Ns.look (S : Sim K G F H σ ρ) (N : Ns K G F H ρ q es) : ∃ A : Hp, Same A H ∧ ∀ e ∈ es, Rep K A (.ref e.1) (.lst e.2) := by
  have sm : Same F (plusG F H (adrs q es)) := N.same fun b h => (N.free h).1
  refine ⟨plusG F H (adrs q es), fun b o e => ?_, fun e he => ?_⟩
  · by_cases h : b ∈ adrs q es
    · rw [plus_in h] at e; exact e
    · rw [plus_out h] at e; exact S.hF b o e
  · obtain ⟨h1, h2, h3, us, h4, h5⟩ := N.el e he
    exact .lst (by rw [plus_in (List.mem_cons_of_mem _ (List.mem_map.mpr ⟨e, he, rfl⟩))]; exact h4) (h5.mono sm)
end
end
end Pl
namespace Pl
open PySem PySem.Spec PyProof.Rows L2
abbrev NE := NestedKey × Addr × V
abbrev NT : List NE → List (NestedKey × Addr × Value) → Prop := Paired fun p q => p.1 = q.1 ∧ p.2.1 = q.2.1 ∧ RelV p.2.2 q.2.2
def dnφ (P : Program) (w : World) (a : Addr) (L : List NE) : Heap → Prop := fun h => L.length ≤ sizeLine ∧ (a == sysModules) = false ∧ ∃ xs, NT L xs ∧
  ∃ o es ep, h.get? a = some o ∧ o.ExactDict ∧ o.data = .dict es ep ∧ es.toList = xs.map (entryOfKey (nestedKind P w)) ∧ (xs.map (·.1)).Nodup
def DicNO (P : Program) (w : World) (a : Addr) (L : List NE) : HO := .ext (dnφ P w a L)
theorem dn_mut {P : Program} {w : World} {a : Addr} {L : List NE} : Mut (DicNO P w a L) := ⟨a, fun h ⟨_, _, xs, _, o, es, ep, e, _, d, _⟩ => ⟨o, es, ep, e, d⟩⟩
mutual
inductive NKv (H : Hp) : V → NestedKey → Prop
  | non : NKv H .non .none
  | bl (b : Bool) : NKv H (.bl b) (.num (if b = true then 1 else 0))
  | int (i : Int) : NKv H (.int i) (.num i)
  | str (x : Str) : NKv H (.str x) (.text x)
  | tup {a : Addr} {vs : List V} {ks : List NestedKey} : H a = some (.tup vs) → NKvs H vs ks → NKv H (.ref a) (.tup ks)
inductive NKvs (H : Hp) : List V → List NestedKey → Prop
  | nil : NKvs H [] []
  | cons {v : V} {vs : List V} {k : NestedKey} {ks : List NestedKey} : NKv H v k → NKvs H vs ks → NKvs H (v :: vs) (k :: ks)
end
section
variable {P : Program} {w : World} {H : Hp} {h : Heap}
mutual
theorem NKv.is (ok : HOk P w H h) : ∀ {v : V} {k : NestedKey} {u : Value}, NKv H v k → RelV v u → NestedIs h k u
  | _, _, u, .non, r => by
    have r : u = .none := r
    subst r; exact .none
  | _, _, u, .bl b, r => by
    have r : u = .bool b := r
    subst r; exact .bool rfl
  | _, _, u, .int i, r => by
    obtain ⟨t, r⟩ := (show ∃ t, u = Value.int i t from r)
    subst r; exact .int i t
  | _, _, u, .str x, r => by
    obtain ⟨t, r⟩ := (show ∃ t, u = Value.str x t from r)
    subst r; exact .text x t
  | _, _, u, .tup (a := a) (vs := vs) e q, r => by
    have r : u = .ref a := r
    subst r
    obtain ⟨_, its, rv, o, h1, h2, n, h3⟩ := (show ObjOk P w H h a (.tup vs) from ok a _ e)
    exact .tup h1 h2 h3 (by simpa using NKvs.is ok q rv)
theorem NKvs.is (ok : HOk P w H h) : ∀ {vs : List V} {ks : List NestedKey} {us : List Value}, NKvs H vs ks → Vals vs us → NestedAll h ks us
  | _, _, _, .nil, r => by cases r; exact .nil
  | _, _, _, .cons q t, r => by
    cases r with
    | cons r1 r2 => exact .cons (q.is ok r1) (NKvs.is ok t r2)
end
end
def NKey (H : Hp) (b : Addr) (k : NestedKey) : Prop := NKv H (.ref b) k ∧ k.depth ≤ 8
theorem NKey.is {P : Program} {w : World} {H : Hp} {h : Heap} {b : Addr} {k : NestedKey} (ok : HOk P w H h) (x : NKey H b k) : (nestedKind P w).is h k b := ⟨x.1.is ok rfl, x.2⟩
def KeysOk (H : Hp) (L : List NE) : Prop := ∀ p ∈ L, NKey H p.2.1 p.1
def lookN (L : List NE) (k : NestedKey) : Option V := (L.find? fun p => decide (p.1 = k)).map (·.2.2)
def putN (L : List NE) (k : NestedKey) (b : Addr) (v : V) : List NE := if (lookN L k).isSome = true then L.map (fun p => if p.1 = k then (p.1, p.2.1, v) else p) else L ++ [(k, b, v)]
theorem NT.val {L : List NE} {xs : List (NestedKey × Addr × Value)} (r : NT L xs) (k : NestedKey) : RelO (lookN L k) ((atKey xs k).map (·.2)) := by
  induction r with
  | nil => exact True.intro
  | @cons p q ps qs h t ih =>
    obtain ⟨h1, _, h2⟩ := h
    by_cases e : p.1 = k
    · have e' : q.1 = k := h1.symm.trans e
      have b : atKey (q :: qs) k = some q.2 := by simp [atKey, List.find?_cons, e']
      have a : lookN (p :: ps) k = some p.2.2 := by simp [lookN, List.find?_cons, e]
      rw [a, b]; exact h2
    · have e' : ¬ q.1 = k := fun z => e (h1.trans z)
      have b : atKey (q :: qs) k = atKey qs k := by simp [atKey, List.find?_cons, e']
      have a : lookN (p :: ps) k = lookN ps k := by simp [lookN, List.find?_cons, e]
      rw [a, b]; exact ih
theorem NT.repl {L : List NE} {xs : List (NestedKey × Addr × Value)} (r : NT L xs) (k : NestedKey) {y : V} {u : Value} (ry : RelV y u) : NT (L.map fun p => if p.1 = k then (p.1, p.2.1, y) else p) (xs.map (putAt k u)) := by
  induction r with
  | nil => exact .nil
  | @cons p q ps qs h t ih =>
    rw [List.map_cons, List.map_cons]
    refine .cons ?_ ih
    obtain ⟨h1, h2, h3⟩ := h
    unfold putAt
    by_cases e : p.1 = k
    · rw [if_pos e, if_pos (h1.symm.trans e)]; exact ⟨h1, h2, ry⟩
    · rw [if_neg e, if_neg (fun z => e (h1.trans z))]; exact ⟨h1, h2, h3⟩
theorem NT.put {L : List NE} {xs : List (NestedKey × Addr × Value)} (r : NT L xs) (k : NestedKey) {b : Addr} {y : V} {u : Value} (ry : RelV y u) : NT (putN L k b y) (storedH xs k b u) := by
  have e : (lookN L k).isSome = (atKey xs k).isSome := by rw [(r.val k).isSome_eq, Option.isSome_map]
  unfold putN storedH
  rw [e]
  by_cases q : (atKey xs k).isSome = true
  · rw [if_pos q, if_pos q]; exact r.repl k ry
  · rw [if_neg q, if_neg q]; exact Paired.snoc r ⟨rfl, rfl, ry⟩
theorem NT.len {L : List NE} {xs : List (NestedKey × Addr × Value)} (r : NT L xs) : L.length = xs.length := Paired.length r
theorem NT.adrs {L : List NE} {xs : List (NestedKey × Addr × Value)} (r : NT L xs) : L.map (·.2.1) = xs.map (·.2.1) := by
  induction r with
  | nil => rfl
  | cons h t ih => rw [List.map_cons, List.map_cons, ih, h.2.1]
end Pl
namespace Pl
open PySem PySem.Spec PyProof.Rows L2
mutual
def keyN : D → Option NestedKey
  | .non => some .none
  | .bl b => some (.num (if b = true then 1 else 0))
  | .int i => some (.num i)
  | .str x => some (.text x)
  | .tup xs => (keyNs xs).map .tup
  | .lst _ => none
  | .scr _ => none
  | .adr _ => none
  | .exc _ _ => none
def keyNs : List D → Option (List NestedKey)
  | [] => some []
  | d :: ds => match keyN d, keyNs ds with
    | some k, some ks => some (k :: ks)
    | _, _ => none
end
section
variable {K : PySem.W.Frag} {F H : Hp}
mutual
theorem key_nk (e : Same F H) : ∀ {d : D} {v : V} {k : NestedKey}, Rep K F v d → keyN d = some k → NKv H v k
  | .non, _, _, r, h => by cases r; rw [keyN] at h; cases h; exact .non
  | .bl b, _, _, r, h => by cases r; rw [keyN] at h; cases h; exact .bl b
  | .int i, _, _, r, h => by cases r; rw [keyN] at h; cases h; exact .int i
  | .str x, _, _, r, h => by cases r; rw [keyN] at h; cases h; exact .str x
  | .tup xs, _, _, r, h => by
    cases r with
    | tup q t =>
      rw [keyN] at h
      obtain ⟨ks, h1, rfl⟩ := Option.map_eq_some_iff.mp h
      exact .tup (e _ _ q) (keys_nk e t h1)
  | .lst xs, _, _, _, h => by rw [keyN] at h; cases h
  | .scr ns, _, _, _, h => by rw [keyN] at h; cases h
  | .adr a, _, _, _, h => by rw [keyN] at h; cases h
  | .exc c y, _, _, _, h => by rw [keyN] at h; cases h
theorem keys_nk (e : Same F H) : ∀ {ds : List D} {vs : List V} {ks : List NestedKey}, Reps K F vs ds → keyNs ds = some ks → NKvs H vs ks
  | [], _, _, r, h => by cases r; rw [keyNs] at h; cases h; exact .nil
  | d :: ds, _, _, r, h => by
    cases r with
    | cons r1 r2 =>
      rw [keyNs] at h
      cases q1 : keyN d with
      | none => rw [q1] at h; cases h
      | some k =>
        cases q2 : keyNs ds with
        | none => rw [q1, q2] at h; cases h
        | some ks =>
          rw [q1, q2] at h
          cases h
          exact .cons (key_nk e r1 q1) (keys_nk e r2 q2)
end
end
def KeyD (d : D) (k : NestedKey) : Prop := (∃ xs, d = .tup xs) ∧ keyN d = some k ∧ k.depth ≤ 8
theorem KeyD.ref {K : PySem.W.Frag} {F : Hp} {v : V} {d : D} {k : NestedKey} (h : KeyD d k) (r : Rep K F v d) : ∃ b, v = .ref b := by
  obtain ⟨⟨xs, rfl⟩, _⟩ := h
  cases r with
  | tup q t => exact ⟨_, rfl⟩
theorem KeyD.key {K : PySem.W.Frag} {F H : Hp} {b : Addr} {d : D} {k : NestedKey} (h : KeyD d k) (e : Same F H) (r : Rep K F (.ref b) d) : NKey H b k := ⟨key_nk e r h.2.1, h.2.2⟩
abbrev Kps := List (NestedKey × D × D)
def DnR (K : PySem.W.Frag) (F : Hp) : List NE → Kps → Prop
  | [], [] => True
  | p :: ps, q :: qs => (p.1 = q.1 ∧ KeyD q.2.1 q.1 ∧ Rep K F (.ref p.2.1) q.2.1 ∧ Rep K F p.2.2 q.2.2) ∧ DnR K F ps qs
  | _, _ => False
theorem DnR.mono {K : PySem.W.Frag} {F F' : Hp} (sm : Same F F') : ∀ {L : List NE} {ps : Kps}, DnR K F L ps → DnR K F' L ps
  | [], [], _ => trivial
  | _ :: _, _ :: _, h => ⟨⟨h.1.1, h.1.2.1, h.1.2.2.1.mono sm, h.1.2.2.2.mono sm⟩, DnR.mono sm h.2⟩
  | [], _ :: _, h => h.elim
  | _ :: _, [], h => h.elim
theorem DnR.len {K : PySem.W.Frag} {F : Hp} : ∀ {L : List NE} {ps : Kps}, DnR K F L ps → L.length = ps.length
  | [], [], _ => rfl
  | _ :: _, _ :: _, h => congrArg (· + 1) (DnR.len h.2)
  | [], _ :: _, h => h.elim
  | _ :: _, [], h => h.elim
theorem DnR.keys {K : PySem.W.Frag} {F H : Hp} (e : Same F H) : ∀ {L : List NE} {ps : Kps}, DnR K F L ps → KeysOk H L
  | [], [], _, p, m => by cases m
  | x :: L, q :: ps, h, p, m => by
    rcases List.mem_cons.mp m with rfl | m
    · rw [h.1.1]; exact h.1.2.1.key e h.1.2.2.1
    · exact DnR.keys e h.2 p m
  | [], _ :: _, h, _, _ => h.elim
  | _ :: _, [], h, _, _ => h.elim
def lookK (ps : Kps) (k : NestedKey) : Option D := (ps.find? fun p => decide (p.1 = k)).map (·.2.2)
def putKp (ps : Kps) (k : NestedKey) (x y : D) : Kps := if (lookK ps k).isSome = true then ps.map (fun p => if p.1 = k then (p.1, p.2.1, y) else p) else ps ++ [(k, x, y)]
theorem DnR.look {K : PySem.W.Frag} {F : Hp} (k : NestedKey) : ∀ {L : List NE} {ps : Kps}, DnR K F L ps → (lookN L k = none ∧ lookK ps k = none) ∨ ∃ v y, lookN L k = some v ∧ lookK ps k = some y ∧ Rep K F v y
  | [], [], _ => .inl ⟨rfl, rfl⟩
  | p :: L, q :: ps, h => by
    by_cases e : p.1 = k
    · exact .inr ⟨p.2.2, q.2.2, by simp [lookN, List.find?_cons, e], by simp [lookK, List.find?_cons, h.1.1 ▸ e], h.1.2.2.2⟩
    · have a : lookN (p :: L) k = lookN L k := by simp [lookN, List.find?_cons, e]
      have b : lookK (q :: ps) k = lookK ps k := by simp [lookK, List.find?_cons, h.1.1 ▸ e]
      rw [a, b]
      exact DnR.look k h.2
  | [], _ :: _, h => h.elim
  | _ :: _, [], h => h.elim
theorem DnR.repl {K : PySem.W.Frag} {F : Hp} {k : NestedKey} {v : V} {y : D} (r : Rep K F v y) : ∀ {L : List NE} {ps : Kps}, DnR K F L ps → DnR K F (L.map fun p => if p.1 = k then (p.1, p.2.1, v) else p) (ps.map fun p => if p.1 = k then (p.1, p.2.1, y) else p)
  | [], [], _ => trivial
  | p :: L, q :: ps, h => by
    have t := DnR.repl (k := k) r h.2
    by_cases e : p.1 = k
    · have e2 : q.1 = k := h.1.1 ▸ e
      rw [List.map_cons, List.map_cons, if_pos e, if_pos e2]
      exact ⟨⟨h.1.1, h.1.2.1, h.1.2.2.1, r⟩, t⟩
    · have e2 : ¬ q.1 = k := h.1.1 ▸ e
      rw [List.map_cons, List.map_cons, if_neg e, if_neg e2]
      exact ⟨h.1, t⟩
  | [], _ :: _, h => h.elim
  | _ :: _, [], h => h.elim
theorem DnR.snoc {K : PySem.W.Frag} {F : Hp} {p : NE} {q : NestedKey × D × D} (hp : p.1 = q.1 ∧ KeyD q.2.1 q.1 ∧ Rep K F (.ref p.2.1) q.2.1 ∧ Rep K F p.2.2 q.2.2) : ∀ {L : List NE} {ps : Kps}, DnR K F L ps → DnR K F (L ++ [p]) (ps ++ [q])
  | [], [], _ => ⟨hp, trivial⟩
  | _ :: _, _ :: _, h => ⟨h.1, DnR.snoc hp h.2⟩
  | [], _ :: _, h => h.elim
  | _ :: _, [], h => h.elim
theorem DnR.put {K : PySem.W.Frag} {F : Hp} {L : List NE} {ps : Kps} (h : DnR K F L ps) {k : NestedKey} {b : Addr} {v : V} {x y : D} (hk : KeyD x k) (rx : Rep K F (.ref b) x) (ry : Rep K F v y) : DnR K F (putN L k b v) (putKp ps k x y) := by
  unfold putN putKp
  rcases h.look k with ⟨h1, h2⟩ | ⟨u, z, h1, h2, _⟩
  · rw [h1, h2]
    exact h.snoc ⟨rfl, hk, rx, ry⟩
  · rw [h1, h2]
    exact h.repl ry
def noLp : Kps → Bool
  | [] => true
  | p :: ps => noL p.2.1 && noL p.2.2 && noLp ps
theorem DnR.noDrop {K : PySem.W.Frag} {F F' : Hp} (e : ∀ b xs, F b = some (.tup xs) → F' b = some (.tup xs)) : ∀ {L : List NE} {ps : Kps}, DnR K F L ps → noLp ps = true → DnR K F' L ps
  | [], [], _, _ => trivial
  | _ :: _, q :: ps, h, n => by
    rw [noLp, Bool.and_eq_true, Bool.and_eq_true] at n
    exact ⟨⟨h.1.1, h.1.2.1, Rep.noDrop e h.1.2.2.1 n.1.1, Rep.noDrop e h.1.2.2.2 n.1.2⟩, DnR.noDrop e h.2 n.2⟩
  | [], _ :: _, h, _ => h.elim
  | _ :: _, [], h, _ => h.elim
def dnS (P : Program) (w : World) (a : Addr) (ps : Kps) : GS where
  root := a
  foot := [a]
  at' := fun K F H => ∃ L, H a = some (DicNO P w a L) ∧ DnR K F L ps
  mono := fun ⟨L, h1, h2⟩ sm e => ⟨L, by rw [e a (List.mem_singleton.mpr rfl)]; exact h1, h2.mono sm⟩
  muts := fun ⟨L, h1, _⟩ p m => by rw [List.mem_singleton.mp m]; exact ⟨_, h1, dn_mut⟩
  nl := noLp ps
  drop := fun n _ _ _ _ e ⟨L, h1, h2⟩ => ⟨L, h1, h2.noDrop e n⟩
abbrev nB (P : Program) (w : World) (a : Addr) (ps : Kps) : Option Cell := some (.box (.gen (dnS P w a ps)))
def dnF (P : Program) (w : World) (a : Addr) (ps : Kps) : GS where
  root := a
  foot := []
  at' := fun K F H => ∃ L, F a = some (DicNO P w a L) ∧ DnR K F L ps
  mono := fun ⟨L, h1, h2⟩ sm _ => ⟨L, sm _ _ h1, h2.mono sm⟩
  muts := fun _ p m => by cases m
  nl := false
  drop := fun n => by cases n
abbrev nF (P : Program) (w : World) (a : Addr) (ps : Kps) : Option Cell := some (.box (.gen (dnF P w a ps)))
def IsN (P : Program) (w : World) (a : Addr) (ps : Kps) (c : Option Cell) : Prop := c = nB P w a ps ∨ c = nF P w a ps
theorem IsN.look [TJ] {P : Program} {w : World} {K : PySem.W.Frag} {G F H : Hp} {σ : L2.St} {ρ : Ro} {a : Addr} {ps : Kps} {c : Option Cell} {i : Nat} (S : Sim K G F H σ ρ) (e : ρ[i]? = some c) (h : IsN P w a ps c) : σ[i]? = some (some (.ref a)) ∧ ∃ L, H a = some (DicNO P w a L) ∧ DnR K F L ps := by
  rcases h with rfl | rfl
  · obtain ⟨g1, g2, L, g3, g4⟩ := S.bx.box i _ e
    exact ⟨g1, L, g3, g4⟩
  · obtain ⟨g1, g2, L, g3, g4⟩ := S.bx.box i _ e
    exact ⟨g1, L, S.hF _ _ g3, g4⟩
section
variable [TJ] {X : Cx} {e a b value : Expr} {te tb ta tv : TE} {Te Tb Ta Tv : TEp} {pos : Pos}
theorem DnR.some {K : PySem.W.Frag} {F : Hp} {L : List NE} {ps : Kps} (h : DnR K F L ps) (k : NestedKey) : (lookN L k).isSome = (lookK ps k).isSome := by
  rcases h.look k with ⟨h1, h2⟩ | ⟨u, z, h1, h2, _⟩
  · rw [h1, h2]; rfl
  · rw [h1, h2]; rfl
end
end Pl
namespace Pl
open PySem PySem.Spec PyProof.Rows L2
variable [TJ]
section
variable {K : PySem.W.Frag} {G F H : Hp} {σ : L2.St} {ρ : Ro}
theorem Sim.updM (S : Sim K G F H σ ρ) {p : Addr} {o o' : HO} (hH : H p = some o) (hF : F p = none) (hG : G p = none) (hn : NotOwn ρ p) (mo : Mut o) : Sim K G F (upd H p o') σ ρ where
  hF := fun a x e => by rw [upd_ne (ne_of_none e hF)]; exact S.hF a x e
  hG := S.hG.mut hG hH mo
  len := S.len
  val := S.val
  own := fun i a xs e => by
    obtain ⟨h1, h2, h3, vs, h4, h5⟩ := S.own i a xs e
    have q : a ≠ p := fun z => by subst z; exact hn.1 i xs e
    exact ⟨h1, h2, h3, vs, by rw [upd_ne q]; exact h4, h5⟩
  ne := S.ne
  bx := S.bx.upd' hn.2
end
structure Dn (K : PySem.W.Frag) (P : Program) (w : World) (G F H : Hp) (σ : L2.St) (ρ : Ro) (a : Addr) (ps : Kps) : Prop where
  S : Sim K G F H σ ρ
  no : NotOwn ρ a
  nf : F a = none
  at' : ∃ L, H a = some (DicNO P w a L) ∧ DnR K F L ps
section
variable {K : PySem.W.Frag} {P : Program} {w : World} {G F H F1 H1 : Hp} {σ σ1 : L2.St} {ρ ρ1 : Ro} {a : Addr} {ps : Kps} {L : List NE} {vs : List Nat}
theorem Dn.push (N : Dn K P w G F H σ ρ a ps) (hG : G a = none) : Sim K G F H (σ ++ [some (.ref a)]) (ρ ++ [some (.box (.gen (dnS P w a ps)))]) :=
  N.S.pushBox (s := .gen (dnS P w a ps)) (fun p m => by rw [List.mem_singleton.mp m]; exact ⟨N.nf, hG⟩) N.at' fun p m => by rw [List.mem_singleton.mp m]; exact N.no
theorem Dn.back (hG : G a = none) (S : Sim K G F H σ ρ) (hF : F a = none) (hL : DnR K F L ps) (S1 : Sim K (upd G a (DicNO P w a L)) F1 H1 σ1 ρ1) (u : Up (upd G a (DicNO P w a L)) F F1) (hl : σ1.length = σ.length) (hj : ∀ j, j ∉ vs → σ1[j]? = σ[j]?) : Dn K P w G F1 H1 σ (restore ρ ρ1 vs) a ps :=
  ⟨S.restore S1 (same_new hG) u.ex hl hj, ⟨fun j xs e => (by
    rcases restore_get e with ⟨_, _, e', _⟩ | ⟨_, r⟩
    · cases e'
    · have := (S1.own j a xs r).2.2.1
      rw [upd_same] at this; cases this), fun m => S1.bx.notG upd_same (restore_box m)⟩, u.isNone hF upd_same, ⟨L, S1.hG a _ upd_same, hL.mono u.ex⟩⟩
theorem Dn.put (N : Dn K P w G F H σ ρ a ps) (hG : G a = none) (hL : H a = some (DicNO P w a L)) (hR : DnR K F L ps) {k : NestedKey} {b : Addr} {x y : D} {v : V} (hk : KeyD x k) (rx : Rep K F (.ref b) x) (ry : Rep K F v y) : Dn K P w G F (upd H a (DicNO P w a (putN L k b v))) σ ρ a (putKp ps k x y) :=
  ⟨N.S.updM hL N.nf hG N.no dn_mut, N.no, N.nf, _, upd_same, hR.put hk rx ry⟩
end
end Pl
namespace Pl
open PySem PySem.Spec PyProof.Rows L2
def CellK (K : PySem.W.Frag) (F H : Hp) (v : V) : Cell → Prop
  | .val d => Rep K F v d
  | .own _ _ => False
  | .box s => v = .ref s.root ∧ s.foot = [] ∧ s.At K F H
def CellsK (K : PySem.W.Frag) (F H : Hp) : List V → List Cell → Prop
  | [], [] => True
  | v :: vs, c :: cs => CellK K F H v c ∧ CellsK K F H vs cs
  | _, _ => False
theorem CellK.to {K : PySem.W.Frag} {F F' H H' : Hp} {v : V} {c : Cell} (h : CellK K F H v c) (sm : Same F F') : CellK K F' H' v c := by
  cases c with
  | val d => exact Rep.mono sm h
  | own p xs => exact h
  | box s => exact ⟨h.1, h.2.1, h.2.2.mono sm fun p m => by rw [h.2.1] at m; cases m⟩
theorem CellsK.to {K : PySem.W.Frag} {F F' H H' : Hp} (sm : Same F F') : ∀ {vs : List V} {cs : List Cell}, CellsK K F H vs cs → CellsK K F' H' vs cs
  | [], [], _ => trivial
  | _ :: _, _ :: _, h => ⟨h.1.to sm, CellsK.to sm h.2⟩
  | [], _ :: _, h => h.elim
  | _ :: _, [], h => h.elim
theorem CellsK.len {K : PySem.W.Frag} {F H : Hp} : ∀ {vs : List V} {cs : List Cell}, CellsK K F H vs cs → vs.length = cs.length
  | [], [], _ => rfl
  | _ :: _, _ :: _, h => congrArg (· + 1) (CellsK.len h.2)
  | [], _ :: _, h => h.elim
  | _ :: _, [], h => h.elim
theorem CellsK.get {K : PySem.W.Frag} {F H : Hp} : ∀ {vs : List V} {cs : List Cell} {i : Nat} {c : Cell}, CellsK K F H vs cs → cs[i]? = some c → ∃ v, vs[i]? = some v ∧ CellK K F H v c
  | v :: _, _ :: _, 0, _, h, e => ⟨v, rfl, by cases e; exact h.1⟩
  | _ :: _, _ :: _, i + 1, _, h, e => CellsK.get (i := i) h.2 e
  | [], _ :: _, _, _, h, _ => h.elim
  | _, [], _, _, _, e => by cases e
theorem CellK.feet {K : PySem.W.Frag} {F H : Hp} {v : V} {c : Cell} (h : CellK K F H v c) : c.foot = [] := by
  cases c with
  | val d => rfl
  | own p xs => exact h.elim
  | box s => exact h.2.1
abbrev TKs := Ro → (List Cell → Ro → Prop) → Prop
end Pl
namespace Pl
open PySem PySem.Spec PyProof.Rows L2
abbrev It3 := Addr × Addr × Fds
def shI (C : Addr) (t : It3) : Sh := .ins t.1 C t.2.1 t.2.2
def bagS (C a : Addr) (xs : List It3) : GS where
  root := a
  foot := xs.flatMap fun t => (shI C t).foot
  at' := fun K F H => F a = some (.lst (xs.map fun t => V.ref t.1)) ∧ (∀ t ∈ xs, (shI C t).At K F H) ∧ xs.Pairwise fun t u => ∀ p ∈ (shI C t).foot, p ∉ (shI C u).foot
  mono := fun ⟨h1, h2, h3⟩ sm e => ⟨sm _ _ h1, fun t ht => (h2 t ht).mono sm fun p m => e p (List.mem_flatMap.mpr ⟨t, ht, m⟩), h3⟩
  muts := fun ⟨_, h2, _⟩ p m => by
    obtain ⟨t, ht, q⟩ := List.mem_flatMap.mp m
    exact (h2 t ht).mut q
  nl := false
  drop := fun n => by cases n
abbrev nI (C a : Addr) (xs : List It3) : Option Cell := some (.box (.gen (bagS C a xs)))
end Pl
namespace Pl
open PySem PySem.Spec PyProof.Rows L2
abbrev Ads := List (Addr × Kps)
def AllF (P : Program) (w : World) (K : PySem.W.Frag) (F : Hp) (xs : Ads) : Prop := ∀ x ∈ xs, ∃ L, F x.1 = some (DicNO P w x.1 L) ∧ DnR K F L x.2
theorem AllF.mono {P : Program} {w : World} {K : PySem.W.Frag} {F F' : Hp} {xs : Ads} (sm : Same F F') (h : AllF P w K F xs) : AllF P w K F' xs := fun x hx => let ⟨L, h3, h4⟩ := h x hx; ⟨L, sm _ _ h3, h4.mono sm⟩
end Pl
namespace Pl
open PySem PySem.Spec PyProof.Rows L2
def Calm0 (A : Around) : Prop := A.guards = some []
structure FnG (P : Program) (w : World) (K : PySem.W.Frag) (mg : Str → Option Value) (bs : Heap) (n : Nat) (f : Addr) (fd : FuncData) (ps : List Str) (sp : Sp) : Prop where
  len : ∀ vs H Q E, sp vs H Q E → vs.length = ps.length
  run : ∀ (A : Around) (out : List Env) (s : Shared) (H : Hp) (ar : Args) (us : List Value) (vs : List V) (Q : VK) (E : XK), Calm0 A → Room n A → Env0 P w K mg bs A out s H → BindsTo s fd ar (ps.zip us) → Vals vs us → sp vs H Q E →
    codeAny (model P w) A (.call (.ref f) ar) (CR CX0 out P w H s Q E) s
theorem FnG.mono {P : Program} {w : World} {K : PySem.W.Frag} {mg : Str → Option Value} {bs : Heap} {m n : Nat} {f : Addr} {fd : FuncData} {ps : List Str} {sp : Sp} (F : FnG P w K mg bs m f fd ps sp) (h : m ≤ n) : FnG P w K mg bs n f fd ps sp :=
  ⟨F.len, fun A out s H ar us vs Q E hc hr => F.run A out s H ar us vs Q E hc (hr.mono h)⟩
end Pl
namespace Pl
open PySem PySem.Spec PyProof.Rows L2
variable [TJ]
abbrev TDp := Ro → (List (L2.Key × D) → Ro → Prop) → Prop
end Pl
namespace Pl
open PySem PySem.Spec PyProof.Rows L2
section
variable [TJ]
section
variable {K : PySem.W.Frag} {G G' F F' H H' F2 H2 : Hp} {σ σ2 : L2.St} {ρ ρ' ρ2 : Ro} {v : V} {c : Cell} {as : List Addr} {vs : List V} {cs : List Cell}
theorem Sim.guardA (S : Sim K G F H σ ρ) (h : ∀ p ∈ as, (∃ o, H p = some o ∧ Mut o) ∧ NotOwn ρ p) : Sim K (guardF G H as) F H σ ρ := by
  refine ⟨S.hF, ⟨fun b o e => ?_, TJ.frame S.hG.tj fun b o e => ?_⟩, S.len, S.val, fun i b ys q => ?_, S.ne, S.bx.heap (.refl _) fun p m => ⟨(S.bx.free m).1, ?_, rfl⟩⟩
  · by_cases m : b ∈ as
    · rw [guardF_in m] at e; exact e
    · rw [guardF_out m] at e; exact S.hG b o e
  · by_cases m : b ∈ as
    · exact .inr (h b m).1
    · rw [guardF_out m] at e; exact .inl e
  · obtain ⟨g1, g2, g3, g4⟩ := S.own i b ys q
    exact ⟨g1, g2, by rw [guardF_out fun m => (h b m).2.1 i ys q]; exact g3, g4⟩
  · rw [guardF_out fun z => (h p z).2.2 m]; exact (S.bx.free m).2.1
omit [TJ] in
theorem same_guard (h : ∀ p ∈ as, G p = none) : Same G (guardF G H as) := fun b o e => by
  by_cases m : b ∈ as
  · rw [h b m] at e; cases e
  · rw [guardF_out m]; exact e
theorem keptA (h : ∀ p ∈ as, F p = none ∧ ∃ o, H p = some o) (u : Up (guardF G H as) F F2) (S2 : Sim K (guardF G H as) F2 H2 σ2 ρ2) : ∀ p ∈ as, F2 p = none ∧ NotOwn ρ2 p ∧ H2 p = H p := fun p m => by
  obtain ⟨o, ho⟩ := (h p m).2
  have hg : guardF G H as p = some o := by rw [guardF_in m]; exact ho
  refine ⟨u.isNone (h p m).1 hg, ⟨fun i ys q => ?_, S2.bx.notG hg⟩, by rw [ho]; exact S2.hG p o hg⟩
  have := (S2.own i p ys q).2.2.1
  rw [hg] at this; cases this
theorem feet_cons {cs : List Cell} {p : Addr} : p ∈ feet (c :: cs) ↔ p ∈ c.foot ∨ p ∈ feet cs := by unfold feet; rw [List.flatMap_cons, List.mem_append]
theorem CellsB.all : ∀ {vs : List V} {cs : List Cell}, CellsB K G F H ρ vs cs → ∀ p ∈ feet cs, F p = none ∧ G p = none ∧ NotOwn ρ p ∧ ∃ o, H p = some o ∧ Mut o
  | [], [], _, p, m => absurd m List.not_mem_nil
  | _ :: _, _ :: _, h, p, m => by
    rcases feet_cons.mp m with m | m
    · exact ⟨(h.1.2 p m).1, (h.1.2 p m).2.1, (h.1.2 p m).2.2, h.1.live m⟩
    · exact CellsB.all h.2.1 p m
  | [], _ :: _, h, _, _ => h.elim
  | _ :: _, [], h, _, _ => h.elim
theorem CellsB.to (hs : Same F F') : ∀ {vs : List V} {cs : List Cell}, CellsB K G F H ρ vs cs → (∀ p ∈ feet cs, F' p = none ∧ G' p = none ∧ NotOwn ρ' p ∧ H' p = H p) → CellsB K G' F' H' ρ' vs cs
  | [], [], _, _ => trivial
  | _ :: _, _ :: _, h, hp => ⟨h.1.to hs fun p m => hp p (feet_cons.mpr (.inl m)), CellsB.to hs h.2.1 fun p m => hp p (feet_cons.mpr (.inr m)), h.2.2⟩
  | [], _ :: _, h, _ => h.elim
  | _ :: _, [], h, _ => h.elim
theorem CellsB.snoc : ∀ {vs : List V} {cs : List Cell}, CellsB K G F H ρ vs cs → CellB K G F H ρ v c → (∀ p ∈ c.foot, p ∉ feet cs) → CellsB K G F H ρ (vs ++ [v]) (cs ++ [c])
  | [], [], _, h, _ => ⟨h, trivial, fun p _ c' m => absurd m List.not_mem_nil⟩
  | _ :: _, x :: cs, h, hc, n => ⟨h.1, CellsB.snoc h.2.1 hc fun p m z => n p m (feet_cons.mpr (.inr z)), fun p m c' m' z => by
    rcases List.mem_append.mp m' with m' | m'
    · exact h.2.2 p m c' m' z
    · rw [List.mem_singleton.mp m'] at z
      exact n p z (feet_cons.mpr (.inl m))⟩
  | [], _ :: _, h, _, _ => h.elim
  | _ :: _, [], h, _, _ => h.elim
end
theorem NotOwn.back {ρ' ρ5 : Ro} {vs : List Nat} {p : Addr} (h1 : NotOwn ρ5 p) : NotOwn (Pl.restore ρ' ρ5 vs) p := ⟨fun j xs e => (by
  rcases restore_get e with ⟨_, _, e', _⟩ | ⟨_, r⟩
  · cases e'
  · exact h1.1 j xs r), fun m => h1.2 (restore_box m)⟩
end
end Pl
namespace Pl
open PySem PySem.Spec PyProof.Rows L2
inductive Mi where
  | dat (d : D) | own (a : Addr) (xs : List D)
def Mi.foot : Mi → List Addr
  | .dat _ => []
  | .own a _ => [a]
def Mi.d : Mi → D
  | .dat d => d
  | .own _ xs => .lst xs
def Mi.ok (K : PySem.W.Frag) (F H : Hp) (v : V) : Mi → Prop
  | .dat d => Rep K F v d ∧ ∃ ds, d = .tup ds
  | .own a ys => v = .ref a ∧ ∃ us, H a = some (.lst us) ∧ Reps K F us ys
def MiR (K : PySem.W.Frag) (F H : Hp) : List V → List Mi → Prop
  | [], [] => True
  | v :: vs, m :: ms => m.ok K F H v ∧ MiR K F H vs ms
  | _, _ => False
def miFoot (ms : List Mi) : List Addr := ms.flatMap Mi.foot
section
variable {K : PySem.W.Frag} {F F' H H' : Hp} {v : V} {m : Mi}
theorem miFoot_cons {m : Mi} {ms : List Mi} {p : Addr} : p ∈ miFoot (m :: ms) ↔ p ∈ m.foot ∨ p ∈ miFoot ms := by unfold miFoot; rw [List.flatMap_cons, List.mem_append]
theorem Mi.ok.mono (h : m.ok K F H v) (sm : Same F F') (e : ∀ p ∈ m.foot, H' p = H p) : m.ok K F' H' v := by
  cases m with
  | dat d => exact ⟨h.1.mono sm, h.2⟩
  | own a ys =>
    obtain ⟨h1, us, h2, h3⟩ := h
    exact ⟨h1, us, by rw [e a (List.mem_singleton.mpr rfl)]; exact h2, h3.mono sm⟩
theorem MiR.mono (sm : Same F F') : ∀ {vs : List V} {ms : List Mi}, (∀ p ∈ miFoot ms, H' p = H p) → MiR K F H vs ms → MiR K F' H' vs ms
  | [], [], _, _ => trivial
  | _ :: _, _ :: _, e, h => ⟨h.1.mono sm fun p q => e p (miFoot_cons.mpr (.inl q)), MiR.mono sm (fun p q => e p (miFoot_cons.mpr (.inr q))) h.2⟩
  | [], _ :: _, _, h => h.elim
  | _ :: _, [], _, h => h.elim
theorem MiR.len : ∀ {vs : List V} {ms : List Mi}, MiR K F H vs ms → vs.length = ms.length
  | [], [], _ => rfl
  | _ :: _, _ :: _, h => congrArg (· + 1) (MiR.len h.2)
  | [], _ :: _, h => h.elim
  | _ :: _, [], h => h.elim
theorem MiR.at' : ∀ {vs : List V} {ms : List Mi} {k : Nat} {m : Mi}, MiR K F H vs ms → ms[k]? = some m → ∃ v, vs[k]? = some v ∧ m.ok K F H v
  | [], [], _, _, _, e => by simp at e
  | v :: _, _ :: _, 0, _, h, e => by
    cases e
    exact ⟨v, rfl, h.1⟩
  | _ :: _, _ :: _, k + 1, _, h, e => MiR.at' (k := k) h.2 (by simpa using e)
  | [], _ :: _, _, _, h, _ => h.elim
  | _ :: _, [], _, _, h, _ => h.elim
theorem mi_in {ms : List Mi} {m : Mi} {p : Addr} (h : m ∈ ms) (q : p ∈ m.foot) : p ∈ miFoot ms := List.mem_flatMap.mpr ⟨m, h, q⟩
theorem MiR.live (h : MiR K F H vs ms) {p : Addr} (q : p ∈ miFoot ms) : ∃ us, H p = some (.lst us) := by
  obtain ⟨m, hm, q⟩ := List.mem_flatMap.mp q
  obtain ⟨k, hk⟩ := List.mem_iff_getElem?.mp hm
  obtain ⟨v, _, ok⟩ := h.at' hk
  cases m with
  | dat d => cases q
  | own a ys =>
    rw [List.mem_singleton.mp q]
    exact ⟨_, ok.2.choose_spec.1⟩
theorem MiR.set {a : Addr} {ys zs : List D} {us : List V} (r : Reps K F us zs) : ∀ {vs : List V} {ms : List Mi} {k : Nat}, MiR K F H vs ms → (miFoot ms).Nodup → ms[k]? = some (.own a ys) → MiR K F (upd H a (.lst us)) vs (ms.set k (.own a zs))
  | [], [], _, _, _, e => by simp at e
  | _ :: vs, m :: ms, 0, h, nd, e => by
    cases e
    have nd : (a :: miFoot ms).Nodup := nd
    exact ⟨⟨h.1.1, us, upd_same, r⟩, h.2.mono (.refl _) fun p q => upd_ne fun z => (List.nodup_cons.mp nd).1 (z ▸ q)⟩
  | _ :: vs, m :: ms, k + 1, h, nd, e => by
    have e : ms[k]? = some (.own a ys) := by simpa using e
    have nd : (m.foot ++ miFoot ms).Nodup := nd
    obtain ⟨_, n2, n3⟩ := List.nodup_append.mp nd
    have hin : a ∈ miFoot ms := mi_in (List.mem_of_getElem? e) (List.mem_singleton.mpr rfl)
    exact ⟨h.1.mono (.refl _) fun p q => upd_ne fun z => n3 p q a hin z, MiR.set r h.2 n2 e⟩
  | [], _ :: _, _, h, _, _ => h.elim
  | _ :: _, [], _, h, _, _ => h.elim
theorem miFoot_set {a : Addr} {ys zs : List D} : ∀ {ms : List Mi} {k : Nat}, ms[k]? = some (.own a ys) → miFoot (ms.set k (.own a zs)) = miFoot ms
  | [], _, e => by simp at e
  | m :: ms, 0, e => by cases e; rfl
  | m :: ms, k + 1, e => by
    show m.foot ++ miFoot (ms.set k _) = m.foot ++ miFoot ms
    rw [miFoot_set (ms := ms) (k := k) (by simpa using e)]
theorem MiR.snoc {d : D} : ∀ {vs : List V} {ms : List Mi}, MiR K F H vs ms → m.ok K F H v → MiR K F H (vs ++ [v]) (ms ++ [m])
  | [], [], _, h => ⟨h, trivial⟩
  | _ :: _, _ :: _, h, hv => ⟨h.1, MiR.snoc (d := d) h.2 hv⟩
  | [], _ :: _, h, _ => h.elim
  | _ :: _, [], h, _ => h.elim
theorem MiR.reps (sm : Same F F') : ∀ {vs : List V} {ms : List Mi}, MiR K F H vs ms → (∀ p ∈ miFoot ms, F' p = H p) → Reps K F' vs (ms.map Mi.d)
  | [], [], _, _ => .nil
  | v :: vs, .dat d :: ms, h, e => .cons (h.1.1.mono sm) (MiR.reps sm h.2 fun p q => e p (miFoot_cons.mpr (.inr q)))
  | v :: vs, .own a ys :: ms, h, e => by
    obtain ⟨⟨rfl, us, h2, h3⟩, h4⟩ := h
    exact .cons (.lst (by rw [e a (miFoot_cons.mpr (.inl (List.mem_singleton.mpr rfl)))]; exact h2) (h3.mono sm)) (MiR.reps sm h4 fun p q => e p (miFoot_cons.mpr (.inr q)))
  | [], _ :: _, h, _ => h.elim
  | _ :: _, [], h, _ => h.elim
end
def mixS (a : Addr) (ms : List Mi) : GS where
  root := a
  foot := a :: miFoot ms
  at' := fun K F H => (a :: miFoot ms).Nodup ∧ ∃ vs, H a = some (.lst vs) ∧ MiR K F H vs ms
  mono := fun ⟨n, vs, h1, h2⟩ sm e => ⟨n, vs, by rw [e _ List.mem_cons_self]; exact h1, h2.mono sm fun p q => e p (List.mem_cons_of_mem _ q)⟩
  muts := fun ⟨n, vs, h1, h2⟩ p q => by
    rcases List.mem_cons.mp q with rfl | q
    · exact ⟨_, h1, trivial⟩
    · obtain ⟨us, e⟩ := h2.live q
      exact ⟨_, e, trivial⟩
  nl := false
  drop := fun n => by cases n
abbrev miB (a : Addr) (ms : List Mi) : Cell := .box (.gen (mixS a ms))
section
variable [TJ] {X : Cx} {e c a b : Expr} {te ta tb : TE} {Tc Ta Tb : TCp} {T : TCs} {tc : TT} {C : TTp} {pos : Pos}
def pIfC (C : TTp) (Ta Tb : TCp) : TCp := fun ρ Q => C ρ fun b ρ1 => if b = true then Ta ρ1 Q else Tb ρ1 Q
theorem ppc_ifC (hc : PPT X c tc C) (ha : PPC X a ta Ta) (hb : PPC X b tb Tb) : PPC X (.IfExp c a b pos) (tIf tc ta tb) (pIfC C Ta Tb) := ⟨pe_ifExp hc.pt ha.pe hb.pe, fun G F H σ ρ Q R S hT k =>
  hc.snd G F H σ ρ _ _ S hT fun b F' H' ρ' u S' q => by
    cases b with
    | true => exact ite_ti (ha.snd G F' H' σ ρ' Q R S' (ite_t q) fun v c F2 H2 ρ2 u2 S2 q2 => k v c F2 H2 ρ2 (u.trans u2) S2 q2)
    | false => exact ite_fi (hb.snd G F' H' σ ρ' Q R S' (ite_f q) fun v c F2 H2 ρ2 u2 S2 q2 => k v c F2 H2 ρ2 (u.trans u2) S2 q2)⟩
abbrev ownM (e : Addr × List D) : Mi := .own e.1 e.2
end
end Pl
namespace Pl
open PySem PySem.Spec PyProof.Rows L2
def frzL (F H : Hp) (as : List Addr) : Hp := fun b => if b ∈ as then H b else F b
def Mi.long : Mi → Prop
  | .dat _ => True
  | .own _ xs => 2 ≤ xs.length
end Pl
namespace Pl
open PySem PySem.Spec PyProof.Rows L2
abbrev mxB (a : Addr) (es : List (Addr × List D)) : Cell := miB a (es.map ownM)
theorem miFoot_own {es : List (Addr × List D)} {p : Addr} : p ∈ miFoot (es.map ownM) ↔ p ∈ es.map Prod.fst := by
  unfold miFoot
  rw [List.mem_flatMap, List.mem_map]
  constructor
  · rintro ⟨m, hm, hp⟩
    obtain ⟨e, he, rfl⟩ := List.mem_map.mp hm
    exact ⟨e, he, (List.mem_singleton.mp hp).symm⟩
  · rintro ⟨e, he, rfl⟩
    exact ⟨ownM e, List.mem_map.mpr ⟨e, he, rfl⟩, List.mem_singleton.mpr rfl⟩
theorem miFoot_app (a b : List Mi) : miFoot (a ++ b) = miFoot a ++ miFoot b := by unfold miFoot; rw [List.flatMap_append]
section
variable [TJ] {X : Cx} {e b1 : Expr} {te tb1 : TE} {Te Tb1 : TEp} {pos : Pos}
def pMxNew : TCp := fun ρ Q => ∀ a b, Q (mxB a [(b, [])]) ρ
theorem ppc_mxnew {p1 p2 : Pos} (hs : starEach [.List [] p1] X.env = (false, eval (.List [] p1) X.env) :: starEach [] X.env := by rfl) : PPC X (.List [.List [] p1] p2) (tLst (tCons (tLst tNil) tNil)) pMxNew := ⟨pe_lst (pa_cons (pe_lst pa_nil) pa_nil hs), fun G F H σ ρ Q R S hT k =>
  ⟨Nat.zero_le _, fun b hb => ⟨by show (1 : Nat) ≤ sizeLine; decide, fun a ha => by
    have S1 := S.more (o := .lst []) hb
    have S2 := S1.more (o := .lst [.ref b]) ha
    have nab : a ≠ b := fun z => by subst z; rw [upd_same] at ha; cases ha
    have ha0 : H a = none := by rw [upd_ne nab] at ha; exact ha
    have nd : [a, b].Nodup := List.nodup_cons.mpr ⟨fun m => nab (List.mem_singleton.mp m), List.nodup_cons.mpr ⟨List.not_mem_nil, List.nodup_nil⟩⟩
    refine k (.ref a) _ F _ ρ (.refl _ _) (S2.pushBox (s := .gen (mixS a [.own b []])) (fun q m => ?_) ⟨nd, [.ref b], upd_same, ⟨rfl, [], by rw [upd_ne (fun z => nab z.symm)]; exact upd_same, .nil⟩, trivial⟩ fun q m => ?_) (hT a b)
    · rcases List.mem_cons.mp m with rfl | m
      · exact ⟨S.freshF ha0, S.freshG ha0⟩
      · rw [List.mem_singleton.mp (show q ∈ [b] from m)]; exact ⟨S.freshF hb, S.freshG hb⟩
    · rcases List.mem_cons.mp m with rfl | m
      · exact S.notOwn ha0
      · rw [List.mem_singleton.mp (show q ∈ [b] from m)]; exact S.notOwn hb⟩⟩⟩
def pMxApp0 (i : Nat) : TSp := fun P ρ => ∃ a ms, ρ[i]? = some (some (miB a ms)) ∧ ms.length < 1000 ∧ ∀ b, P.nx (ρ.set i (some (miB a (ms ++ [.own b []]))))
theorem pps_mxApp0 (i : Nat) {x : Str} {p ap cp lp : Pos} (hN : X.N[i]? = some x := by rfl) (hv : Vis X.env.scope x := by first | exact Or.inl rfl | exact Or.inr (Or.inl rfl) | exact Or.inr (Or.inr rfl)) (hd : (x == ("__debug__" : Str)) = false := by decide)
    (hcd : (x == ("__classdict__" : Str)) = false := by decide)
    (hbase : attributeBase (.Name x p) "append" X.env (eval (.Name x p) X.env) = eval (.Name x p) X.env := by rfl)
    (hfew : ((backTo cp (starEach [.List [] lp] X.env)).all (fun x => !x.1) && (backToKw cp (keywordEach [] X.env)).all (fun x => x.1.isSome)
      && decide ([Expr.List [] lp].length + ([] : List Keyword).length + (if ([] : List Keyword).isEmpty then 0 else 1) < 30)) = true := by rfl)
    (hline : (ap.endLine == cp.line) = true := by rfl) (hs : starEach [.List [] lp] X.env = (false, eval (.List [] lp) X.env) :: starEach [] X.env := by rfl)
    (hsw : swapsWith (.Call (.Attribute (.Name x p) "append" ap) [.List [] lp] [] cp) none pos.line X.env = pure false := by rfl) :
    PPS X (.Expr (.Call (.Attribute (.Name x p) "append" ap) [.List [] lp] [] cp) pos) (tDrop (tBM X.K "list" rAppend (tVar i) (tCons (tLst tNil) tNil))) (pMxApp0 i) := ⟨ps_expr (pe_bm PySem.F.plainAttrs_list PySem.F.slot_list_append PySem.F.type_list_append mt_append (pe_var hN hv hd hcd) (pa_cons (pe_lst pa_nil) pa_nil hs) hbase hfew hline hs rfl) hsw, fun G F H σ ρ P D S hT r => by
  obtain ⟨a, ms, e0, hz, hq⟩ := hT
  obtain ⟨c1, c2, nd, ws, c4, c5⟩ := S.bx.box i _ e0
  refine ⟨.ref a, c1, .inl ⟨rfl, _, SqL.of c4⟩, Nat.zero_le _, fun b hb => ?_⟩
  have S1 := S.more (o := .lst []) hb
  obtain ⟨g1, g2, g3⟩ := S1.bx.box i _ e0
  obtain ⟨nd1, ws1, g4, g5⟩ := id g3
  have ma : a ∈ a :: miFoot ms := List.mem_cons_self
  have na : a ∉ miFoot ms := (List.nodup_cons.mp nd).1
  have nb : b ∉ a :: miFoot ms := fun m => by
    rcases List.mem_cons.mp m with rfl | m
    · rw [hb] at c4; cases c4
    · obtain ⟨us, hu⟩ := c5.live m
      rw [hb] at hu; cases hu
  have ef : miFoot (ms ++ [Mi.own b []]) = miFoot ms ++ [b] := by rw [miFoot_app]; rfl
  have hab : a ≠ b := fun z => nb (by rw [← z]; exact ma)
  have nd2 : (a :: miFoot (ms ++ [Mi.own b []])).Nodup := by
    rw [ef]
    refine List.nodup_cons.mpr ⟨fun m => ?_, List.nodup_append.mpr ⟨(List.nodup_cons.mp nd).2, List.nodup_cons.mpr ⟨List.not_mem_nil, List.nodup_nil⟩, fun x hx y hy z => ?_⟩⟩
    · rcases List.mem_append.mp m with m | m
      · exact na m
      · exact hab (List.mem_singleton.mp m)
    · rw [List.mem_singleton.mp hy] at z
      exact nb (List.mem_cons_of_mem _ (by rw [← z]; exact hx))
  have at2 : (mixS a (ms ++ [Mi.own b []])).at' X.K F (upd (upd H b (.lst [])) a (.lst (ws1 ++ [.ref b]))) := ⟨nd2, _, upd_same, (g5.mono (H' := upd (upd H b (.lst [])) a (.lst (ws1 ++ [.ref b]))) (.refl _) fun q m => upd_ne fun z => na (by rw [← z]; exact m)).snoc (d := .non) (m := .own b []) ⟨rfl, [], by rw [upd_ne (fun z => hab z.symm)]; exact upd_same, .nil⟩⟩
  have S2 := S1.mutBoxN (s := .gen (mixS a ms)) (s' := .gen (mixS a (ms ++ [Mi.own b []]))) e0 rfl (fun q m => by
    have m : q ∈ a :: miFoot (ms ++ [Mi.own b []]) := m
    rw [ef] at m
    rcases List.mem_cons.mp m with rfl | m
    · exact .inl ma
    · rcases List.mem_append.mp m with m | m
      · exact .inl (List.mem_cons_of_mem _ m)
      · rw [List.mem_singleton.mp m]; exact .inr ⟨S.freshF hb, S.freshG hb, S.notOwn hb⟩) (H' := upd (upd H b (.lst [])) a (.lst (ws1 ++ [V.ref b]))) (fun q m => upd_ne fun z => m (by rw [z]; exact ma)) (S1.hG.mut (g2 a ma).2 g4) at2
  exact ⟨a, ws1, .ref b, rfl, rfl, g4, by rw [g5.len]; exact Nat.lt_of_lt_of_le hz (by decide), r.nx F _ _ _ (.refl _ _) S2 (hq b)⟩⟩
def pMxApp (i : Nat) (Tb1 Te : TEp) : TSp := fun P ρ => ∃ a m0 b, (∃ x0, ρ[i]? = some (some (miB a (m0 ++ [.own b x0])))) ∧ Tb1 ρ fun z ρ0 => z = .int (-1) ∧ (∃ x0, ρ0[i]? = some (some (miB a (m0 ++ [.own b x0])))) ∧ Te ρ0 fun y ρ1 => ∃ xs, ρ1[i]? = some (some (miB a (m0 ++ [.own b xs]))) ∧ xs.length < sizeLine ∧ P.nx (ρ1.set i (some (miB a (m0 ++ [.own b (xs ++ [y])]))))
theorem pps_mxApp (i : Nat) {x : Str} {p sp ap cp : Pos} (hb : PPE X b1 tb1 Tb1) (he : PPE X e te Te) (hN : X.N[i]? = some x := by rfl) (hv : Vis X.env.scope x := by first | exact Or.inl rfl | exact Or.inr (Or.inl rfl) | exact Or.inr (Or.inr rfl)) (hd : (x == ("__debug__" : Str)) = false := by decide)
    (hcd : (x == ("__classdict__" : Str)) = false := by decide) (hpl : PlainIx b1 := by exact fun _ _ => rfl)
    (hbase : attributeBase (.Subscript (.Name x p) b1 sp) "append" X.env (eval (.Subscript (.Name x p) b1 sp) X.env) = eval (.Subscript (.Name x p) b1 sp) X.env := by rfl)
    (hfew : ((backTo cp (starEach [e] X.env)).all (fun x => !x.1) && (backToKw cp (keywordEach [] X.env)).all (fun x => x.1.isSome)
      && decide ([e].length + ([] : List Keyword).length + (if ([] : List Keyword).isEmpty then 0 else 1) < 30)) = true := by rfl)
    (hline : (ap.endLine == cp.line) = true := by rfl) (hs : starEach [e] X.env = (false, eval e X.env) :: starEach [] X.env := by rfl)
    (hsw : swapsWith (.Call (.Attribute (.Subscript (.Name x p) b1 sp) "append" ap) [e] [] cp) none pos.line X.env = pure false := by rfl) :
    PPS X (.Expr (.Call (.Attribute (.Subscript (.Name x p) b1 sp) "append" ap) [e] [] cp) pos) (tDrop (tBM X.K "list" rAppend (tOp (rIxA X.K) (tVar i) tb1) (tCons te tNil))) (pMxApp i Tb1 Te) := ⟨ps_expr (pe_bm PySem.F.plainAttrs_list PySem.F.slot_list_append PySem.F.type_list_append mt_append (pe_ix ix_any (pe_var hN hv hd hcd) hb.pe hpl) (pa_cons he.pe pa_nil hs) hbase hfew hline hs rfl) hsw, fun G F H σ ρ P D S hT r => by
  obtain ⟨a, m0, b, ⟨x0, e0⟩, hT⟩ := hT
  refine ⟨.ref a, (S.bx.box i _ e0).1, hb.snd G F H σ ρ _ _ S hT fun z dz F1 H1 ρ0 u1 S1 r1 q1 => ?_⟩
  obtain ⟨rfl, ⟨x1, e1⟩, hT⟩ := q1
  cases r1
  obtain ⟨_, _, nd, vs, hA, rA⟩ := S1.bx.box i _ e1
  have hat : (m0 ++ [Mi.own b x1])[m0.length]? = some (.own b x1) := by rw [List.getElem?_append_right (Nat.le_refl _), Nat.sub_self]; rfl
  obtain ⟨v, hv1, rfl, ws, hB, rB⟩ := rA.at' hat
  have hl : vs.length = m0.length + 1 := by rw [rA.len, List.length_append]; rfl
  have hix : atI vs (-1) = some (.ref b) := by
    unfold atI ixN
    rw [if_neg (by decide), if_pos (by omega)]
    show vs[_]? = _
    rw [show ((-1 : Int) + (vs.length : Int)).toNat = m0.length by omega]
    exact hv1
  refine .inl ⟨a, _, -1, .ref b, rfl, rfl, SqL.of hA, hix, .inl ⟨rfl, _, SqL.of hB⟩, he.snd G F1 H1 σ ρ0 _ _ S1 hT fun y dy F2 H2 ρ1 u2 S2 r2 q2 => ?_⟩
  obtain ⟨xs, e2, hz, q⟩ := q2
  obtain ⟨g1, g2, g3⟩ := S2.bx.box i _ e2
  obtain ⟨nd2, vs2, hA2, rA2⟩ := id g3
  have hat2 : (m0 ++ [Mi.own b xs])[m0.length]? = some (.own b xs) := by rw [List.getElem?_append_right (Nat.le_refl _), Nat.sub_self]; rfl
  obtain ⟨v2, _, _, ws2, hB2, rB2⟩ := rA2.at' hat2
  have hset : (m0 ++ [Mi.own b xs]).set m0.length (.own b (xs ++ [dy])) = m0 ++ [Mi.own b (xs ++ [dy])] := by rw [List.set_append_right _ _ (Nat.le_refl _), Nat.sub_self]; rfl
  have hb' : b ∈ a :: miFoot (m0 ++ [Mi.own b xs]) := List.mem_cons_of_mem _ (mi_in (List.mem_of_getElem? hat2) (List.mem_singleton.mpr rfl))
  have mb : b ∈ miFoot (m0 ++ [Mi.own b xs]) := mi_in (List.mem_of_getElem? hat2) (List.mem_singleton.mpr rfl)
  have hab : a ≠ b := fun z => (List.nodup_cons.mp nd2).1 (by rw [z]; exact mb)
  have ef : miFoot (m0 ++ [Mi.own b (xs ++ [dy])]) = miFoot (m0 ++ [Mi.own b xs]) := by rw [← hset]; exact miFoot_set hat2
  have at2 : (mixS a (m0 ++ [Mi.own b (xs ++ [dy])])).at' X.K F2 (upd H2 b (.lst (ws2 ++ [y]))) := by
    refine ⟨by rw [ef]; exact nd2, vs2, by rw [upd_ne hab]; exact hA2, ?_⟩
    rw [← hset]
    exact MiR.set (rB2.append (.one r2)) rA2 (List.nodup_cons.mp nd2).2 hat2
  exact ⟨b, ws2, y, rfl, rfl, hB2, by rw [rB2.length]; exact hz, r.nx F2 _ _ _ (u1.trans u2) (S2.mutBoxN (s := .gen (mixS a (m0 ++ [Mi.own b xs]))) (s' := .gen (mixS a (m0 ++ [Mi.own b (xs ++ [dy])]))) (H' := upd H2 b (.lst (ws2 ++ [y]))) e2 rfl (fun q m => .inl (by
    have m : q ∈ a :: miFoot (m0 ++ [Mi.own b (xs ++ [dy])]) := m
    rw [ef] at m; exact m)) (fun q m => upd_ne fun z => m (by rw [z]; exact hb')) (S2.hG.mut (g2 b hb').2 hB2) at2) q⟩⟩
end
end Pl
namespace Pl
open PySem PySem.Spec PyProof.Rows L2 LiI
section
variable [TJ] {K : PySem.W.Frag} {G F H : Hp} {σ : L2.St} {ρ : Ro} {as : List Addr}
theorem frzL_in {b : Addr} (h : b ∈ as) : frzL F H as b = H b := by unfold frzL; rw [if_pos h]
theorem frzL_out {b : Addr} (h : b ∉ as) : frzL F H as b = F b := by unfold frzL; rw [if_neg h]
theorem frzL_same (h : ∀ p ∈ as, F p = none) : Same F (frzL F H as) := fun b o z => by
  have n : b ∉ as := fun m => by rw [h b m] at z; cases z
  rw [frzL_out n]; exact z
theorem frzL_sub (h : Same F H) : Same (frzL F H as) H := fun b o z => by
  by_cases n : b ∈ as
  · rw [frzL_in n] at z; exact z
  · rw [frzL_out n] at z; exact h b o z
theorem Sim.frzA (S : Sim K G F H σ ρ) (h : ∀ p ∈ as, F p = none ∧ G p = none ∧ NotOwn ρ p ∧ ∃ us, H p = some (.lst us)) : Up G F (frzL F H as) ∧ Sim K G (frzL F H as) H σ ρ := by
  have sm : Same F (frzL F H as) := frzL_same fun p m => (h p m).1
  refine ⟨⟨sm, fun b o q => ?_⟩, frzL_sub S.hF, S.hG.froz fun b x q => ?_, S.len, fun j d q => ?_, fun j b zs q => ?_, S.ne, S.bx.heap sm fun p m => ?_⟩
  · by_cases n : b ∈ as
    · exact .inr (h b n).2.1
    · rw [frzL_out n] at q; exact .inl q
  · by_cases n : b ∈ as
    · exact .inr (h b n).2.2.2
    · rw [frzL_out n] at q; exact .inl q
  · obtain ⟨v, g1, g2⟩ := S.val j d q
    exact ⟨v, g1, g2.mono sm⟩
  · obtain ⟨g1, g2, g3, us, g4, g5⟩ := S.own j b zs q
    have n : b ∉ as := fun m => (h b m).2.2.1.1 j zs q
    exact ⟨g1, by rw [frzL_out n]; exact g2, g3, us, g4, g5.mono sm⟩
  · have n : p ∉ as := fun z => (h p z).2.2.1.2 m
    exact ⟨by rw [frzL_out n]; exact (S.bx.free m).1, (S.bx.free m).2.1, rfl⟩
end
structure Sti where
  t : Addr
  a : Addr
  xs : List D
  b : Addr
  ys : List D
  d : D
def Sti.foot (s : Sti) : List Addr := [s.a, s.b]
def Sti.dd (s : Sti) : D := .tup [.lst s.xs, .lst s.ys, s.d]
def Sti.ok (K : PySem.W.Frag) (F H : Hp) (v : V) (s : Sti) : Prop := v = .ref s.t ∧ (∃ w, F s.t = some (.tup [.ref s.a, .ref s.b, w]) ∧ Rep K F w s.d) ∧ (∃ us, H s.a = some (.lst us) ∧ Reps K F us s.xs) ∧ ∃ us, H s.b = some (.lst us) ∧ Reps K F us s.ys
def StR (K : PySem.W.Frag) (F H : Hp) : List V → List Sti → Prop
  | [], [] => True
  | v :: vs, s :: ss => s.ok K F H v ∧ StR K F H vs ss
  | _, _ => False
def stFoot (ss : List Sti) : List Addr := ss.flatMap Sti.foot
section
variable {K : PySem.W.Frag} {F F' H H' : Hp} {v : V} {s : Sti}
theorem stFoot_cons {s : Sti} {ss : List Sti} {p : Addr} : p ∈ stFoot (s :: ss) ↔ p ∈ s.foot ∨ p ∈ stFoot ss := by unfold stFoot; rw [List.flatMap_cons, List.mem_append]
theorem Sti.ok.mono (h : s.ok K F H v) (sm : Same F F') (e : ∀ p ∈ s.foot, H' p = H p) : s.ok K F' H' v := by
  obtain ⟨h1, ⟨w, h2, h3⟩, ⟨us, h4, h5⟩, vs, h6, h7⟩ := h
  exact ⟨h1, ⟨w, sm _ _ h2, h3.mono sm⟩, ⟨us, by rw [e _ (by simp [Sti.foot])]; exact h4, h5.mono sm⟩, vs, by rw [e _ (by simp [Sti.foot])]; exact h6, h7.mono sm⟩
theorem StR.mono (sm : Same F F') : ∀ {vs : List V} {ss : List Sti}, (∀ p ∈ stFoot ss, H' p = H p) → StR K F H vs ss → StR K F' H' vs ss
  | [], [], _, _ => trivial
  | _ :: _, _ :: _, e, h => ⟨h.1.mono sm fun p q => e p (stFoot_cons.mpr (.inl q)), StR.mono sm (fun p q => e p (stFoot_cons.mpr (.inr q))) h.2⟩
  | [], _ :: _, _, h => h.elim
  | _ :: _, [], _, h => h.elim
theorem StR.len : ∀ {vs : List V} {ss : List Sti}, StR K F H vs ss → vs.length = ss.length
  | [], [], _ => rfl
  | _ :: _, _ :: _, h => congrArg (· + 1) (StR.len h.2)
  | [], _ :: _, h => h.elim
  | _ :: _, [], h => h.elim
theorem StR.at' : ∀ {vs : List V} {ss : List Sti} {k : Nat} {s : Sti}, StR K F H vs ss → ss[k]? = some s → ∃ v, vs[k]? = some v ∧ s.ok K F H v
  | [], [], _, _, _, e => by simp at e
  | v :: _, _ :: _, 0, _, h, e => by
    cases e
    exact ⟨v, rfl, h.1⟩
  | _ :: _, _ :: _, k + 1, _, h, e => StR.at' (k := k) h.2 (by simpa using e)
  | [], _ :: _, _, _, h, _ => h.elim
  | _ :: _, [], _, _, h, _ => h.elim
theorem st_in {ss : List Sti} {s : Sti} {p : Addr} (h : s ∈ ss) (q : p ∈ s.foot) : p ∈ stFoot ss := List.mem_flatMap.mpr ⟨s, h, q⟩
theorem StR.live {vs : List V} {ss : List Sti} (h : StR K F H vs ss) {p : Addr} (q : p ∈ stFoot ss) : ∃ us, H p = some (.lst us) := by
  obtain ⟨s, hs, q⟩ := List.mem_flatMap.mp q
  obtain ⟨k, hk⟩ := List.mem_iff_getElem?.mp hs
  obtain ⟨v, _, _, _, ⟨us, h4, _⟩, ws, h6, _⟩ := h.at' hk
  rcases List.mem_cons.mp (show p ∈ [s.a, s.b] from q) with rfl | q
  · exact ⟨us, h4⟩
  · rw [List.mem_singleton.mp q]; exact ⟨ws, h6⟩
theorem StR.reps (sm : Same F F') : ∀ {vs : List V} {ss : List Sti}, StR K F H vs ss → (∀ p ∈ stFoot ss, F' p = H p) → Reps K F' vs (ss.map Sti.dd)
  | [], [], _, _ => .nil
  | v :: vs, s :: ss, h, e => by
    obtain ⟨⟨rfl, ⟨w, h2, h3⟩, ⟨us, h4, h5⟩, ws, h6, h7⟩, h8⟩ := h
    have ea : F' s.a = some (.lst us) := by rw [e _ (stFoot_cons.mpr (.inl (by simp [Sti.foot])))]; exact h4
    have eb : F' s.b = some (.lst ws) := by rw [e _ (stFoot_cons.mpr (.inl (by simp [Sti.foot])))]; exact h6
    exact .cons (.tup (sm _ _ h2) (.cons (.lst ea (h5.mono sm)) (.cons (.lst eb (h7.mono sm)) (.cons (h3.mono sm) .nil)))) (StR.reps sm h8 fun p q => e p (stFoot_cons.mpr (.inr q)))
  | [], _ :: _, h, _ => h.elim
  | _ :: _, [], h, _ => h.elim
end
def stS (r : Addr) (ss : List Sti) : GS where
  root := r
  foot := r :: stFoot ss
  at' := fun K F H => (r :: stFoot ss).Nodup ∧ ∃ vs, H r = some (.lst vs) ∧ StR K F H vs ss
  mono := fun ⟨n, vs, h1, h2⟩ sm e => ⟨n, vs, by rw [e _ List.mem_cons_self]; exact h1, h2.mono sm fun p q => e p (List.mem_cons_of_mem _ q)⟩
  muts := fun ⟨n, vs, h1, h2⟩ p q => by
    rcases List.mem_cons.mp q with rfl | q
    · exact ⟨_, h1, trivial⟩
    · obtain ⟨us, e⟩ := h2.live q
      exact ⟨_, e, trivial⟩
  nl := false
  drop := fun n => by cases n
abbrev stB (r : Addr) (ss : List Sti) : Cell := .box (.gen (stS r ss))
theorem stS_live {K : PySem.W.Frag} {F H : Hp} {r : Addr} {ss : List Sti} (h : (stS r ss).at' K F H) {p : Addr} (q : p ∈ r :: stFoot ss) : ∃ us, H p = some (.lst us) := by
  obtain ⟨n, vs, h1, h2⟩ := h
  rcases List.mem_cons.mp q with rfl | q
  · exact ⟨_, h1⟩
  · exact h2.live q
theorem stS_rep {K : PySem.W.Frag} {F F' H : Hp} {r : Addr} {ss : List Sti} (h : (stS r ss).at' K F H) (sm : Same F F') (e : ∀ p ∈ r :: stFoot ss, F' p = H p) : Rep K F' (.ref r) (.lst (ss.map Sti.dd)) := by
  obtain ⟨n, vs, h1, h2⟩ := h
  exact .lst (by rw [e r List.mem_cons_self]; exact h1) (h2.reps sm fun p q => e p (List.mem_cons_of_mem _ q))
section
variable [TJ] {X : Cx} {e : Expr} {te : TE} {Tc : TCp}
def pStFrz (Tc : TCp) : TEp := fun ρ Q => Tc ρ fun c ρ1 => ∃ r ss, c = stB r ss ∧ Q (.lst (ss.map Sti.dd)) ρ1
theorem ppe_stFrz (h : PPC X e te Tc) : PPE X e te (pStFrz Tc) := ⟨h.pe, fun G F H σ ρ Q R S hT k =>
  h.snd G F H σ ρ _ _ S hT fun v c F1 H1 ρ1 u1 S1 q1 => by
    obtain ⟨r, ss, rfl, q⟩ := q1
    obtain ⟨⟨rfl, hat⟩, hf⟩ := S1.lastB
    have Z := S1.drop.frzA (as := r :: stFoot ss) fun p m => ⟨(hf p m).1, (hf p m).2.1, (hf p m).2.2, stS_live hat m⟩
    exact k (.ref r) _ _ H1 ρ1 (u1.trans Z.1) Z.2 (stS_rep hat (frzL_same fun p m => (hf p m).1) fun p m => frzL_in m) q⟩
end
def mkSt : List Addr → List (Addr × List D) → List (Addr × List D) → List D → List Sti
  | t :: ts, x :: xs, y :: ys, d :: ds => ⟨t, x.1, x.2, y.1, y.2, d⟩ :: mkSt ts xs ys ds
  | _, _, _, _ => []
def trD : List (Addr × List D) → List (Addr × List D) → List D → List D
  | x :: xs, y :: ys, d :: ds => .tup [.lst x.2, .lst y.2, d] :: trD xs ys ds
  | _, _, _ => []
theorem mkSt_dd : ∀ (ts : List Addr) (xs ys : List (Addr × List D)) (ds : List D), ts.length = xs.length → (mkSt ts xs ys ds).map Sti.dd = trD xs ys ds
  | [], [], _, _, _ => by cases ‹List (Addr × List D)› <;> rfl
  | [], _ :: _, _, _, h => by cases h
  | _ :: _, [], _, _, h => by cases h
  | t :: ts, x :: xs, [], _, _ => rfl
  | t :: ts, x :: xs, _ :: _, [], _ => rfl
  | t :: ts, x :: xs, y :: ys, d :: ds, h => by
    show Sti.dd _ :: (mkSt ts xs ys ds).map Sti.dd = _
    rw [mkSt_dd ts xs ys ds (Nat.succ.inj h)]; rfl
theorem mkSt_foot : ∀ (ts : List Addr) (xs ys : List (Addr × List D)) (ds : List D) (p : Addr), p ∈ stFoot (mkSt ts xs ys ds) → p ∈ xs.map Prod.fst ∨ p ∈ ys.map Prod.fst
  | t :: ts, x :: xs, y :: ys, d :: ds, p, h => by
    rcases stFoot_cons.mp h with h | h
    · rcases List.mem_cons.mp (show p ∈ [x.1, y.1] from h) with rfl | h
      · exact .inl (by simp)
      · rw [List.mem_singleton.mp h]; exact .inr (by simp)
    · rcases mkSt_foot ts xs ys ds p h with h | h
      · exact .inl (List.mem_cons_of_mem _ h)
      · exact .inr (List.mem_cons_of_mem _ h)
  | [], _, _, _, p, h => by simp [mkSt, stFoot] at h
  | _ :: _, [], _, _, p, h => by simp [mkSt, stFoot] at h
  | _ :: _, _ :: _, [], _, p, h => by simp [mkSt, stFoot] at h
  | _ :: _, _ :: _, _ :: _, [], p, h => by simp [mkSt, stFoot] at h
theorem mkSt_nodup : ∀ (ts : List Addr) (xs ys : List (Addr × List D)) (ds : List D), (xs.map Prod.fst).Nodup → (ys.map Prod.fst).Nodup → (∀ p ∈ xs.map Prod.fst, p ∉ ys.map Prod.fst) → (stFoot (mkSt ts xs ys ds)).Nodup
  | t :: ts, x :: xs, y :: ys, d :: ds, h1, h2, h3 => by
    have k1 := List.nodup_cons.mp (show (x.1 :: xs.map Prod.fst).Nodup from h1)
    have k2 := List.nodup_cons.mp (show (y.1 :: ys.map Prod.fst).Nodup from h2)
    have ih := mkSt_nodup ts xs ys ds k1.2 k2.2 fun p m n => h3 p (List.mem_cons_of_mem _ m) (List.mem_cons_of_mem _ n)
    show ([x.1, y.1] ++ stFoot (mkSt ts xs ys ds)).Nodup
    refine List.nodup_append.mpr ⟨List.nodup_cons.mpr ⟨fun m => h3 x.1 (by simp) (by rw [List.mem_singleton.mp m]; simp), List.nodup_cons.mpr ⟨List.not_mem_nil, List.nodup_nil⟩⟩, ih, fun p hp q hq z => ?_⟩
    subst z
    rcases mkSt_foot ts xs ys ds p hq with hq | hq
    · rcases List.mem_cons.mp hp with rfl | hp
      · exact k1.1 hq
      · rw [List.mem_singleton.mp hp] at hq; exact h3 y.1 (List.mem_cons_of_mem _ hq) (by simp)
    · rcases List.mem_cons.mp hp with rfl | hp
      · exact h3 x.1 (by simp) (List.mem_cons_of_mem _ hq)
      · rw [List.mem_singleton.mp hp] at hq; exact k2.1 hq
  | [], _, _, _, _, _, _ => by simp [mkSt, stFoot]
  | _ :: _, [], _, _, _, _, _ => by simp [mkSt, stFoot]
  | _ :: _, _ :: _, [], _, _, _, _ => by simp [mkSt, stFoot]
  | _ :: _, _ :: _, _ :: _, [], _, _, _ => by simp [mkSt, stFoot]
theorem mkSt_ok {K : PySem.W.Frag} {F H F3 H3 : Hp} (sm : Same F F3) : ∀ {ts : List Addr} {vx vy vz : List V} {xs ys : List (Addr × List D)} {ds : List D}, MiR K F H vx (xs.map ownM) → MiR K F H vy (ys.map ownM) → Reps K F vz ds → ts.length = vx.length → vx.length = vy.length → vx.length = vz.length →
    (∀ p ∈ xs.map Prod.fst, H3 p = H p) → (∀ p ∈ ys.map Prod.fst, H3 p = H p) → (∀ (j : Nat) (t : Addr) (q : V × V × V), ts[j]? = some t → (vx.zip (vy.zip vz))[j]? = some q → F3 t = some (.tup [q.1, q.2.1, q.2.2])) → StR K F3 H3 (ts.map V.ref) (mkSt ts xs ys ds)
  | [], _, _, _, _, _, _, _, _, _, _, _, _, _, _, _ => trivial
  | t :: ts, [], _, _, _, _, _, _, _, _, h, _, _, _, _, _ => by cases h
  | t :: ts, _ :: _, [], _, _, _, _, _, _, _, _, h, _, _, _, _ => by cases h
  | t :: ts, _ :: _, _ :: _, [], _, _, _, _, _, _, _, _, h, _, _, _ => by cases h
  | t :: ts, x :: vx, y :: vy, z :: vz, [], _, _, hx, _, _, _, _, _, _, _, _ => hx.elim
  | t :: ts, x :: vx, y :: vy, z :: vz, _ :: _, [], _, _, hy, _, _, _, _, _, _, _ => hy.elim
  | t :: ts, x :: vx, y :: vy, z :: vz, ex :: xs, ey :: ys, [], _, _, hz, _, _, _, _, _, _ => by cases hz
  | t :: ts, x :: vx, y :: vy, z :: vz, ex :: xs, ey :: ys, d :: ds, hx, hy, hz, l1, l2, l3, e1, e2, ht => by
    obtain ⟨⟨rfl, us, h1, h2⟩, hx⟩ := hx
    obtain ⟨⟨rfl, ws, h3, h4⟩, hy⟩ := hy
    cases hz with
    | cons r1 r2 =>
      refine ⟨⟨rfl, ⟨z, ht 0 t _ rfl rfl, r1.mono sm⟩, ⟨us, by rw [e1 _ (by simp)]; exact h1, h2.mono sm⟩, ws, by rw [e2 _ (by simp)]; exact h3, h4.mono sm⟩, ?_⟩
      exact mkSt_ok sm hx hy r2 (Nat.succ.inj l1) (Nat.succ.inj l2) (Nat.succ.inj l3) (fun p m => e1 p (List.mem_cons_of_mem _ m)) (fun p m => e2 p (List.mem_cons_of_mem _ m)) fun j t' q a b => ht (j + 1) t' q (by simpa using a) (by simpa using b)
theorem miFoot_owns : ∀ es : List (Addr × List D), miFoot (es.map ownM) = es.map Prod.fst
  | [] => rfl
  | e :: es => congrArg (e.1 :: ·) (miFoot_owns es)
section
variable [TJ] {X : Cx} {e e2 e3 : Expr} {ta : TA} {T : TCs} {p q pos pos2 : Pos}
def pZipSt (T : TCs) : TCp := fun ρ Q => T ρ fun cs ρ1 => ∃ a1 xs a2 ys ds, cs = [mxB a1 xs, mxB a2 ys, .val (.lst ds)] ∧ xs.length = ys.length ∧ xs.length = ds.length ∧ ∀ r ss, ss.map Sti.dd = trD xs ys ds → Q (stB r ss) ρ1
theorem ppc_zipSt (hc : X.calm = true) (hgl : Gl X "list") (hml : X.mg "list" = none) (hg : Gl X "zip") (hm : X.mg "zip" = none) (ha : PPBs X [e, e2, e3] ta T)
    (hs : starEach [e, e2, e3] X.env = (false, eval e X.env) :: starEach [e2, e3] X.env := by rfl) (hpl : (backTo pos2 (starEach [e2, e3] X.env)).any (·.1) = false := by rfl)
    (na : starEach [.Call (.Name "zip" q) [e, e2, e3] [] pos2] X.env = (false, eval (.Call (.Name "zip" q) [e, e2, e3] [] pos2) X.env) :: starEach [] X.env := by rfl) :
    PPC X (.Call (.Name "list" p) [.Call (.Name "zip" q) [e, e2, e3] [] pos2] [] pos) (tListZ3 X.K ta) (pZipSt T) := ⟨pe_listZ3 hc hgl hml hg hm ha.pa hs hpl na, fun G F H σ ρ Q R S hT k =>
  ha.snd G F H σ ρ _ _ S hT fun vs cs F1 H1 ρ1 u1 S1 cb q => by
    obtain ⟨a1, xs, a2, ys, ds, rfl, l2, l3, q⟩ := q
    obtain ⟨v1, v2, v3, rfl⟩ := len_three cb.len
    obtain ⟨c1, ⟨c2, ⟨c3, _, _⟩, _⟩, d1⟩ := cb
    obtain ⟨⟨rfl, nd1, vx, hx, rx⟩, f1⟩ := c1
    obtain ⟨⟨rfl, nd2, vy, hy, ry⟩, f2⟩ := c2
    have r3 : Rep X.K F1 v3 (.lst ds) := c3.1
    obtain ⟨c, vz, rfl, fc, rz⟩ := r3.lstInv
    have lx : vx.length = xs.length := by rw [rx.len, List.length_map]
    have ly : vy.length = ys.length := by rw [ry.len, List.length_map]
    refine ⟨a1, a2, c, vx, vy, vz, rfl, SqL.of hx, SqL.of hy, SqL.of (S1.hF _ _ fc), by omega, by rw [lx, rz.length]; exact l3, fun pp ts hp ht hpt hn hl => ?_⟩
    have S2 := S1.more (o := .lst (ts.map V.ref)) hp
    obtain ⟨u3, S3⟩ := sim_put ts (vx.zip (vy.zip vz)) F1 _ S2 (fun t h => by rw [upd_ne (fun e => hpt (by rw [← e]; exact h))]; exact ht t h) hn
    have m1 : ∀ {p : Addr}, p ∈ xs.map Prod.fst → p ∈ a1 :: miFoot (xs.map ownM) := fun m => List.mem_cons_of_mem _ (miFoot_own.mpr m)
    have m2 : ∀ {p : Addr}, p ∈ ys.map Prod.fst → p ∈ a2 :: miFoot (ys.map ownM) := fun m => List.mem_cons_of_mem _ (miFoot_own.mpr m)
    have lv : ∀ {p : Addr}, (∃ us, H1 p = some (.lst us)) → p ∉ ts ∧ p ≠ pp := fun ⟨us, hu⟩ => ⟨fun z => (by rw [ht _ z] at hu; cases hu), fun z => (by rw [z, hp] at hu; cases hu)⟩
    have lx1 : ∀ {p : Addr}, p ∈ xs.map Prod.fst → p ∉ ts ∧ p ≠ pp := fun m => lv (rx.live (miFoot_own.mpr m))
    have ly1 : ∀ {p : Addr}, p ∈ ys.map Prod.fst → p ∉ ts ∧ p ≠ pp := fun m => lv (ry.live (miFoot_own.mpr m))
    have offH : ∀ {p : Addr}, p ∉ ts ∧ p ≠ pp → putT3 (upd H1 pp (.lst (ts.map V.ref))) ts (vx.zip (vy.zip vz)) p = H1 p := fun n => by rw [putT3_off ts _ _ n.1, upd_ne n.2]
    have n1 : (xs.map Prod.fst).Nodup := by rw [← miFoot_owns]; exact (List.nodup_cons.mp nd1).2
    have n2 : (ys.map Prod.fst).Nodup := by rw [← miFoot_owns]; exact (List.nodup_cons.mp nd2).2
    have dis : ∀ p ∈ xs.map Prod.fst, p ∉ ys.map Prod.fst := fun p m n => d1 p (m1 m) (mxB a2 ys) (by simp) (m2 n)
    have hat : (stS pp (mkSt ts xs ys ds)).at' X.K (putT3 F1 ts (vx.zip (vy.zip vz))) (putT3 (upd H1 pp (.lst (ts.map V.ref))) ts (vx.zip (vy.zip vz))) := by
      refine ⟨List.nodup_cons.mpr ⟨fun m => ?_, mkSt_nodup ts xs ys ds n1 n2 dis⟩, ts.map V.ref, by rw [putT3_off ts _ _ hpt, upd_same], mkSt_ok u3.ex rx ry rz hl (by omega) (by rw [lx, rz.length]; exact l3) (fun p m => offH (lx1 m)) (fun p m => offH (ly1 m)) fun j t q e1 e2 => putT3_at ts _ _ hn j t q e1 e2⟩
      rcases mkSt_foot ts xs ys ds pp m with m | m
      · exact (lx1 m).2 rfl
      · exact (ly1 m).2 rfl
    refine k (.ref pp) _ _ _ ρ1 (u1.trans u3) (S3.pushBox (s := .gen (stS pp (mkSt ts xs ys ds))) (fun p m => ?_) hat fun p m => ?_) (q pp _ (mkSt_dd ts xs ys ds (by rw [hl, lx])))
    · rcases List.mem_cons.mp m with rfl | m
      · exact ⟨by rw [putT3_off ts _ _ hpt]; exact S1.freshF hp, S1.freshG hp⟩
      · rcases mkSt_foot ts xs ys ds p m with m | m
        · exact ⟨by rw [putT3_off ts _ _ (lx1 m).1]; exact (f1 p (m1 m)).1, (f1 p (m1 m)).2.1⟩
        · exact ⟨by rw [putT3_off ts _ _ (ly1 m).1]; exact (f2 p (m2 m)).1, (f2 p (m2 m)).2.1⟩
    · rcases List.mem_cons.mp m with rfl | m
      · exact S1.notOwn hp
      · rcases mkSt_foot ts xs ys ds p m with m | m
        · exact (f1 p (m1 m)).2.2
        · exact (f2 p (m2 m)).2.2⟩
end
end Pl
namespace Pl
open PySem PySem.Spec PyProof.Rows L2
def twFoot (r1 : Addr) (s1 : List Sti) (r2 : Addr) (s2 : List Sti) : List Addr := (r1 :: stFoot s1) ++ (r2 :: stFoot s2)
def twS (r r1 : Addr) (s1 : List Sti) (r2 : Addr) (s2 : List Sti) : GS where
  root := r
  foot := r :: twFoot r1 s1 r2 s2
  at' := fun K F H => (r :: twFoot r1 s1 r2 s2).Nodup ∧ H r = some (.lst [.ref r1, .ref r2]) ∧ (stS r1 s1).at' K F H ∧ (stS r2 s2).at' K F H
  mono := fun ⟨n, h1, h2, h3⟩ sm e => ⟨n, by rw [e _ List.mem_cons_self]; exact h1, (stS r1 s1).mono h2 sm fun p q => e p (List.mem_cons_of_mem _ (List.mem_append_left _ q)), (stS r2 s2).mono h3 sm fun p q => e p (List.mem_cons_of_mem _ (List.mem_append_right _ q))⟩
  muts := fun ⟨n, h1, h2, h3⟩ p q => by
    rcases List.mem_cons.mp q with rfl | q
    · exact ⟨_, h1, trivial⟩
    · rcases List.mem_append.mp q with q | q
      · exact (stS r1 s1).muts h2 p q
      · exact (stS r2 s2).muts h3 p q
  nl := false
  drop := fun n => by cases n
abbrev twB (r r1 : Addr) (s1 : List Sti) (r2 : Addr) (s2 : List Sti) : Cell := .box (.gen (twS r r1 s1 r2 s2))
def twD (s1 s2 : List Sti) : D := .lst [.lst (s1.map Sti.dd), .lst (s2.map Sti.dd)]
section
variable [TJ] {X : Cx} {e e1 e2 : Expr} {te : TE} {t : TA} {T : TCs} {Te : TEp} {Tc : TCp} {pos lp : Pos}
def pTwo (T : TCs) : TCp := fun ρ Q => T ρ fun cs ρ1 => ∃ r1 s1 r2 s2, cs = [stB r1 s1, stB r2 s2] ∧ ∀ r, Q (twB r r1 s1 r2 s2) ρ1
theorem ppc_two (h : PPBs X [e1, e2] t T) : PPC X (.List [e1, e2] lp) (tLst t) (pTwo T) := ⟨pe_lst h.pa, fun G F H σ ρ Q R S hT k =>
  h.snd G F H σ ρ _ _ S hT fun vs cs F1 H1 ρ1 u1 S1 cb q => by
    obtain ⟨r1, s1, r2, s2, rfl, q⟩ := q
    obtain ⟨v1, v2, rfl⟩ := len_two cb.len
    obtain ⟨⟨⟨rfl, a1⟩, f1⟩, ⟨⟨⟨rfl, a2⟩, f2⟩, _, _⟩, d1⟩ := cb
    refine ⟨by show (2 : Nat) ≤ sizeLine; decide, fun p hp => ?_⟩
    have S2 := S1.more (o := .lst [.ref r1, .ref r2]) hp
    have lv : ∀ {x : Addr}, (∃ us, H1 x = some (.lst us)) → x ≠ p := fun ⟨us, hu⟩ z => by rw [z, hp] at hu; cases hu
    have l1 : ∀ {x : Addr}, x ∈ r1 :: stFoot s1 → x ≠ p := fun m => lv (stS_live a1 m)
    have l2 : ∀ {x : Addr}, x ∈ r2 :: stFoot s2 → x ≠ p := fun m => lv (stS_live a2 m)
    have hat : (twS p r1 s1 r2 s2).at' X.K F1 (upd H1 p (.lst [.ref r1, .ref r2])) := by
      refine ⟨List.nodup_cons.mpr ⟨fun m => ?_, List.nodup_append.mpr ⟨a1.1, a2.1, fun x hx y hy z => ?_⟩⟩, upd_same, (stS r1 s1).mono a1 (.refl _) fun x m => upd_ne (l1 m), (stS r2 s2).mono a2 (.refl _) fun x m => upd_ne (l2 m)⟩
      · rcases List.mem_append.mp m with m | m
        · exact l1 m rfl
        · exact l2 m rfl
      · subst z; exact d1 x hx (stB r2 s2) (by simp) hy
    refine k (.ref p) _ F1 _ ρ1 u1 (S2.pushBox (s := .gen (twS p r1 s1 r2 s2)) (fun x m => ?_) hat fun x m => ?_) (q p)
    · rcases List.mem_cons.mp m with rfl | m
      · exact ⟨S1.freshF hp, S1.freshG hp⟩
      · rcases List.mem_append.mp m with m | m
        · exact ⟨(f1 x m).1, (f1 x m).2.1⟩
        · exact ⟨(f2 x m).1, (f2 x m).2.1⟩
    · rcases List.mem_cons.mp m with rfl | m
      · exact S1.notOwn hp
      · rcases List.mem_append.mp m with m | m
        · exact (f1 x m).2.2
        · exact (f2 x m).2.2⟩
theorem twS_rep {K : PySem.W.Frag} {F F' H : Hp} {r r1 r2 : Addr} {s1 s2 : List Sti} (h : (twS r r1 s1 r2 s2).at' K F H) (sm : Same F F') (e : ∀ p ∈ r :: twFoot r1 s1 r2 s2, F' p = H p) : Rep K F' (.ref r) (twD s1 s2) := by
  obtain ⟨n, h1, h2, h3⟩ := h
  exact .lst (by rw [e r List.mem_cons_self]; exact h1) (.cons (stS_rep h2 sm fun p m => e p (List.mem_cons_of_mem _ (List.mem_append_left _ m))) (.one (stS_rep h3 sm fun p m => e p (List.mem_cons_of_mem _ (List.mem_append_right _ m)))))
section
variable {k : Nat} {f : Addr} {fd : FuncData} {ps : List Str} {x y : Str} {p py : Pos}
def pCallTw (i : Nat) (g : FA) (Te : TEp) : TEp := fun ρ Q => ∃ r, (∃ r1 s1 r2 s2, ρ[i]? = some (some (twB r r1 s1 r2 s2))) ∧ Te ρ fun d ρ1 => ∃ r1 s1 r2 s2, ρ1[i]? = some (some (twB r r1 s1 r2 s2)) ∧ g [twD s1 s2, d] fun c => ∃ b, c = .val (.bl b) ∧ Q (.bl b) ρ1
theorem after_bl {K : PySem.W.Frag} {G F F' H H' : Hp} {σ : L2.St} {ρ : Ro} {v : V} {b : Bool} (S : Sim K G F H σ ρ) (S' : SimR K H F' H' [some v] [some (.val (.bl b))]) : v = .bl b ∧ Sim K G F H' σ ρ := by
  obtain ⟨w, hw, rw'⟩ := S'.val 0 (.bl b) rfl
  cases rw'
  have hw : some (some v) = some (some (V.bl b)) := hw
  cases hw
  have S2 : SimR K H F H' [some (.bl b)] [some (.val (.bl b))] := by
    refine ⟨fun x o z => S'.hG x o (S.hF x o z), S'.hG, rfl, fun j d h => ?_, fun j b ys h => ?_, fun j l b ys zs h _ => ?_, BxOk.nil fun j s h => ?_⟩
    · obtain ⟨rfl, h⟩ := get_one h
      cases h
      exact ⟨.bl b, rfl, .bl b⟩
    · obtain ⟨_, h⟩ := get_one h
      cases h
    · obtain ⟨_, h⟩ := get_one h
      cases h
    · obtain ⟨_, h⟩ := get_one h
      cases h
  exact ⟨rfl, (S.afterA (.refl _ _) S2).drop⟩
theorem ppe_callTw (i : Nat) {g : FA} (Fn : FnOk X.prog X.w X.K X.mg X.base CX0 k f fd ps (spA X.K 2 g)) (hr : Room k X.A) (hg : Gl X x) (hm : X.mg x = some (.ref f)) (hk : PySem.W.keepIn X.K (.ref f) = true) (hb : Binds X.K fd ps []) (he : PPE X e te Te)
    (hN : X.N[i]? = some y := by rfl) (hv : Vis X.env.scope y := by first | exact Or.inl rfl | exact Or.inr (Or.inl rfl) | exact Or.inr (Or.inr rfl)) (hd : (y == ("__debug__" : Str)) = false := by decide) (hcd : (y == ("__classdict__" : Str)) = false := by decide)
    (hdb : (x == ("__debug__" : Str)) = false := by decide) (hs : starEach [.Name y py, e] X.env = (false, eval (.Name y py) X.env) :: starEach [e] X.env := by rfl) (hs2 : starEach [e] X.env = (false, eval e X.env) :: starEach [] X.env := by rfl) (hpl : (backTo pos (starEach [e] X.env)).any (·.1) = false := by rfl) :
    PPE X (.Call (.Name x p) [.Name y py, e] [] pos) (tCall (spA X.K 2 g) [] (fun _ _ _ => False) (tCons (tVar i) (tCons te tNil))) (pCallTw i g Te) := ⟨pe_call Fn hr hg hm hk hb .nil pass0 (pa_cons (pe_var hN hv hd hcd) (pa_cons he.pe pa_nil hs2) hs) hdb hs hpl, fun G F H σ ρ Q R S hT k => by
  obtain ⟨r, ⟨r1, s1, r2, s2, e0⟩, hT⟩ := hT
  refine ⟨.ref r, (S.bx.box i _ e0).1, he.snd G F H σ ρ _ _ S hT fun v d F1 H1 ρ1 u1 S1 rv q1 => ?_⟩
  obtain ⟨r1, s1, r2, s2, e1, hg⟩ := q1
  obtain ⟨_, g2, g3⟩ := S1.bx.box i _ e1
  have nf : ∀ p ∈ r :: twFoot r1 s1 r2 s2, F1 p = none := fun p m => (g2 p m).1
  have sF := frzL_same (H := H1) nf
  refine ⟨frzL F1 H1 (r :: twFoot r1 s1 r2 s2), [twD s1 s2, d], _, rfl, frzL_sub S1.hF, .cons (twS_rep g3 sF fun p m => frzL_in m) (.one (rv.mono sF)), hg, fun v' c F' H' u S' q => ?_⟩
  obtain ⟨b, rfl, q⟩ := q
  obtain ⟨rfl, S2⟩ := after_bl S1 S'
  exact k _ _ F1 H' ρ1 u1 S2 (.bl b) q⟩
end
end
end Pl
namespace Pl
open PySem PySem.Spec PyProof.Rows L2
section
variable {K : PySem.W.Frag} {F H H' : Hp} {v : V} {s s' : Sti} {p : Addr}
theorem stFoot_set (hf : s'.foot = s.foot) : ∀ {ss : List Sti} {k : Nat}, ss[k]? = some s → stFoot (ss.set k s') = stFoot ss
  | [], _, e => by simp at e
  | x :: ss, 0, e => by
    cases e
    show s'.foot ++ stFoot ss = s.foot ++ stFoot ss
    rw [hf]
  | x :: ss, k + 1, e => by
    show x.foot ++ stFoot (ss.set k s') = x.foot ++ stFoot ss
    rw [stFoot_set hf (ss := ss) (k := k) (by simpa using e)]
theorem StR.set (hp : p ∈ s.foot) (ho : ∀ q, q ≠ p → H' q = H q) : ∀ {vs : List V} {ss : List Sti} {k : Nat}, StR K F H vs ss → (stFoot ss).Nodup → ss[k]? = some s → vs[k]? = some v → s'.ok K F H' v → StR K F H' vs (ss.set k s')
  | [], [], _, _, _, e, _, _ => by simp at e
  | v0 :: vs, x :: ss, 0, h, nd, e, ev, hok => by
    cases e
    cases ev
    have nd : (s.foot ++ stFoot ss).Nodup := nd
    exact ⟨hok, h.2.mono (.refl _) fun q m => ho q fun z => (List.nodup_append.mp nd).2.2 p hp q m z.symm⟩
  | v0 :: vs, x :: ss, k + 1, h, nd, e, ev, hok => by
    have e : ss[k]? = some s := by simpa using e
    have ev : vs[k]? = some v := by simpa using ev
    have nd : (x.foot ++ stFoot ss).Nodup := nd
    obtain ⟨_, n2, n3⟩ := List.nodup_append.mp nd
    exact ⟨h.1.mono (.refl _) fun q m => ho q fun z => n3 q m p (st_in (List.mem_of_getElem? e) hp) z, StR.set hp ho h.2 n2 e ev hok⟩
  | [], _ :: _, _, h, _, _, _, _ => h.elim
  | _ :: _, [], _, h, _, _, _, _ => h.elim
theorem foot_nodup {s : Sti} : ∀ {ss : List Sti}, (stFoot ss).Nodup → s ∈ ss → s.foot.Nodup
  | [], _, h => absurd h List.not_mem_nil
  | x :: ss, nd, h => by
    have nd : (x.foot ++ stFoot ss).Nodup := nd
    obtain ⟨n1, n2, _⟩ := List.nodup_append.mp nd
    rcases List.mem_cons.mp h with rfl | h
    · exact n1
    · exact foot_nodup n2 h
end
section
variable [TJ] {X : Cx} {x0 x1 x2 e : Expr} {t0 t1 t2 te : TE} {k1 k2 : Int} {Te : TEp} {pos : Pos}
def pTwApp (i : Nat) (k1 k2 : Int) (Te : TEp) : TSp := fun P ρ => ∃ r r1 s1 r2 s2 m, ρ[i]? = some (some (twB r r1 s1 r2 s2)) ∧ s1 ≠ [] ∧ (k1 = 0 ∨ k1 = -1) ∧ (k2 = 0 ∨ k2 = 1) ∧ (∀ s ∈ s1, s.xs.length ≤ m ∧ s.ys.length ≤ m) ∧ m < 2000 ∧
  Te ρ fun _ ρ1 => ρ1 = ρ ∧ ∀ s1' : List Sti, s1'.length = s1.length → (∀ s ∈ s1', s.xs.length ≤ m + 1 ∧ s.ys.length ≤ m + 1) → P.nx (ρ.set i (some (twB r r1 s1' r2 s2)))
theorem tw_change {K : PySem.W.Frag} {G F H : Hp} {σ : L2.St} {ρ : Ro} {i j : Nat} {r r1 r2 p : Addr} {s1 s2 : List Sti} {s s' : Sti} {us : List V} (S : Sim K G F H σ ρ) (e : ρ[i]? = some (some (twB r r1 s1 r2 s2))) (hj : s1[j]? = some s) (hp : p ∈ s.foot) (hf : s'.foot = s.foot)
    (hu : ∃ ws, H p = some (.lst ws)) (hok : ∀ v, s.ok K F H v → s'.ok K F (upd H p (.lst us)) v) : Sim K G F (upd H p (.lst us)) σ (ρ.set i (some (twB r r1 (s1.set j s') r2 s2))) := by
  obtain ⟨c1, c2, c3⟩ := S.bx.box i _ e
  obtain ⟨nd, hr, ⟨nd1, vs, hv1, hR⟩, h2⟩ := id c3
  have pm : p ∈ r1 :: stFoot s1 := List.mem_cons_of_mem _ (st_in (List.mem_of_getElem? hj) hp)
  have pt : p ∈ r :: twFoot r1 s1 r2 s2 := List.mem_cons_of_mem _ (List.mem_append_left _ pm)
  have ef : stFoot (s1.set j s') = stFoot s1 := stFoot_set hf hj
  obtain ⟨n0, n1⟩ := List.nodup_cons.mp nd
  obtain ⟨_, _, n2⟩ := List.nodup_append.mp n1
  have rp : r ≠ p := fun z => n0 (by rw [z]; exact List.mem_append_left _ pm)
  have r1p : r1 ≠ p := fun z => (List.nodup_cons.mp nd1).1 (by rw [z]; exact st_in (List.mem_of_getElem? hj) hp)
  obtain ⟨v, hv, ok⟩ := hR.at' hj
  obtain ⟨ws, hws⟩ := hu
  have at2 : (twS r r1 (s1.set j s') r2 s2).at' K F (upd H p (.lst us)) := by
    refine ⟨by unfold twFoot; rw [ef]; exact nd, by rw [upd_ne rp]; exact hr, ⟨by rw [ef]; exact nd1, vs, by rw [upd_ne r1p]; exact hv1, StR.set hp (fun q n => upd_ne n) hR (List.nodup_cons.mp nd1).2 hj hv (hok v ok)⟩, (stS r2 s2).mono h2 (.refl _) fun q m => upd_ne fun z => n2 p pm q m z.symm⟩
  exact S.mutBoxN (s := .gen (twS r r1 s1 r2 s2)) (s' := .gen (twS r r1 (s1.set j s') r2 s2)) e rfl (fun q m => .inl (by
    have m : q ∈ r :: twFoot r1 (s1.set j s') r2 s2 := m
    unfold twFoot at m
    rw [ef] at m; exact m)) (fun q m => upd_ne fun z => m (by rw [z]; exact pt)) (S.hG.mut (c2 p pt).2 hws) at2
theorem pps_twApp (i : Nat) {x : Str} {p sp0 sp1 sp2 ap cp : Pos} (h0 : PE X x0 t0) (c0 : ∀ (σ : L2.St) (H : Hp) (Q : VK), Q (.int 0) H → t0 σ H Q) (h1 : PE X x1 t1) (c1 : ∀ (σ : L2.St) (H : Hp) (Q : VK), Q (.int k1) H → t1 σ H Q) (h2 : PE X x2 t2) (c2 : ∀ (σ : L2.St) (H : Hp) (Q : VK), Q (.int k2) H → t2 σ H Q) (he : PPE X e te Te)
    (hN : X.N[i]? = some x := by rfl) (hv : Vis X.env.scope x := by first | exact Or.inl rfl | exact Or.inr (Or.inl rfl) | exact Or.inr (Or.inr rfl)) (hd : (x == ("__debug__" : Str)) = false := by decide)
    (hcd : (x == ("__classdict__" : Str)) = false := by decide) (hp0 : PlainIx x0 := by exact fun _ _ => rfl) (hp1 : PlainIx x1 := by exact fun _ _ => rfl) (hp2 : PlainIx x2 := by exact fun _ _ => rfl)
    (hbase : attributeBase (.Subscript (.Subscript (.Subscript (.Name x p) x0 sp0) x1 sp1) x2 sp2) "append" X.env (eval (.Subscript (.Subscript (.Subscript (.Name x p) x0 sp0) x1 sp1) x2 sp2) X.env) = eval (.Subscript (.Subscript (.Subscript (.Name x p) x0 sp0) x1 sp1) x2 sp2) X.env := by rfl)
    (hfew : ((backTo cp (starEach [e] X.env)).all (fun x => !x.1) && (backToKw cp (keywordEach [] X.env)).all (fun x => x.1.isSome)
      && decide ([e].length + ([] : List Keyword).length + (if ([] : List Keyword).isEmpty then 0 else 1) < 30)) = true := by rfl)
    (hline : (ap.endLine == cp.line) = true := by rfl) (hs : starEach [e] X.env = (false, eval e X.env) :: starEach [] X.env := by rfl)
    (hsw : swapsWith (.Call (.Attribute (.Subscript (.Subscript (.Subscript (.Name x p) x0 sp0) x1 sp1) x2 sp2) "append" ap) [e] [] cp) none pos.line X.env = pure false := by rfl) :
    PPS X (.Expr (.Call (.Attribute (.Subscript (.Subscript (.Subscript (.Name x p) x0 sp0) x1 sp1) x2 sp2) "append" ap) [e] [] cp) pos) (tDrop (tBM X.K "list" rAppend (tOp (rIxA X.K) (tOp (rIxA X.K) (tOp (rIxA X.K) (tVar i) t0) t1) t2) (tCons te tNil))) (pTwApp i k1 k2 Te) :=
  ⟨ps_expr (pe_bm PySem.F.plainAttrs_list PySem.F.slot_list_append PySem.F.type_list_append mt_append (pe_ix ix_any (pe_ix ix_any (pe_ix ix_any (pe_var hN hv hd hcd) h0 hp0) h1 hp1) h2 hp2) (pa_cons he.pe pa_nil hs) hbase hfew hline hs rfl) hsw, fun G F H σ ρ P D S hT r => by
  obtain ⟨rr, r1, s1, r2, s2, m, e0, hne, hk1, hk2, hlen, hm, hT⟩ := hT
  obtain ⟨b1, b2, nd, hr, ⟨nd1, vs, hv1, hR⟩, _⟩ := S.bx.box i _ e0
  have hpos := List.length_pos_iff.mpr hne
  have hvl : vs.length = s1.length := hR.len
  obtain ⟨j, hj, hat⟩ : ∃ j, ∃ hj : j < s1.length, ∀ v, vs[j]? = some v → atI vs k1 = some v := by
    rcases hk1 with rfl | rfl
    · refine ⟨0, hpos, fun v h => ?_⟩
      unfold atI ixN
      rw [if_pos (by decide), if_pos (by omega)]
      exact h
    · refine ⟨s1.length - 1, by omega, fun v h => ?_⟩
      unfold atI ixN
      rw [if_neg (by decide), if_pos (by omega)]
      show vs[_]? = _
      rw [show ((-1 : Int) + (vs.length : Int)).toNat = s1.length - 1 by omega]
      exact h
  have hs1 : s1[j]? = some s1[j] := List.getElem?_eq_getElem hj
  obtain ⟨v, hvj, rfl, ⟨w, hw, _⟩, ⟨us, ha, _⟩, ws, hb, _⟩ := hR.at' hs1
  have htup := S.hF _ _ hw
  have mem := List.getElem_mem hj
  rcases hk2 with rfl | rfl
  · refine ⟨.ref rr, b1, c0 _ _ _ (.inl ⟨rr, _, 0, .ref r1, rfl, rfl, SqL.of hr, rfl, c1 _ _ _ (.inl ⟨r1, vs, k1, .ref s1[j].t, rfl, rfl, SqL.of hv1, hat _ hvj, c2 _ _ _ (.inr (.inl ⟨s1[j].t, _, 0, .ref s1[j].a, rfl, rfl, SqT.of htup, rfl, ?_⟩))⟩)⟩)⟩
    refine ⟨.inl ⟨rfl, _, SqL.of ha⟩, he.snd G F H σ ρ _ _ S hT fun y dy F1 H1 ρ1 u1 S1 ry q1 => ?_⟩
    obtain ⟨rfl, q⟩ := q1
    obtain ⟨_, _, _, _, ⟨_, _, _, hR1⟩, _⟩ := S1.bx.box i _ e0
    obtain ⟨v1, _, hok⟩ := hR1.at' hs1
    obtain ⟨us1, ha1, ra1⟩ := hok.2.2.1
    have S2 := tw_change (us := us1 ++ [y]) (s' := { s1[j] with xs := s1[j].xs ++ [dy] }) S1 e0 hs1 (by simp [Sti.foot]) rfl ⟨us1, ha1⟩ fun v hv => by
      obtain ⟨g1, g2, ⟨us2, g3, g4⟩, ws2, g5, g6⟩ := hv
      rw [ha1] at g3; cases g3
      have hab : s1[j].b ≠ s1[j].a := fun z => by
        have := (List.nodup_cons.mp nd1).2
        have h3 : s1[j].foot.Nodup := by
          obtain ⟨_, _, _, _, ⟨nn, _, _, _⟩, _⟩ := S1.bx.box i _ e0
          exact foot_nodup (List.nodup_cons.mp nn).2 mem
        exact (List.nodup_cons.mp h3).1 (by rw [z]; exact List.mem_singleton.mpr rfl)
      exact ⟨g1, g2, ⟨us1 ++ [y], upd_same, g4.append (.one ry)⟩, ws2, by rw [upd_ne hab]; exact g5, g6⟩
    refine ⟨s1[j].a, us1, y, rfl, rfl, ha1, by rw [ra1.length]; exact Nat.lt_of_lt_of_le (show s1[j].xs.length < 2000 by have := (hlen _ mem).1; omega) (by decide), r.nx F1 _ _ _ u1 S2 (q _ (List.length_set ..) fun s hs => ?_)⟩
    rcases List.mem_or_eq_of_mem_set hs with h | rfl
    · exact ⟨by have := (hlen s h).1; omega, by have := (hlen s h).2; omega⟩
    · exact ⟨by show (s1[j].xs ++ [dy]).length ≤ _; rw [List.length_append]; have := (hlen _ mem).1; show _ + 1 ≤ _; omega, by have := (hlen _ mem).2; show s1[j].ys.length ≤ _; omega⟩
  · refine ⟨.ref rr, b1, c0 _ _ _ (.inl ⟨rr, _, 0, .ref r1, rfl, rfl, SqL.of hr, rfl, c1 _ _ _ (.inl ⟨r1, vs, k1, .ref s1[j].t, rfl, rfl, SqL.of hv1, hat _ hvj, c2 _ _ _ (.inr (.inl ⟨s1[j].t, _, 1, .ref s1[j].b, rfl, rfl, SqT.of htup, rfl, ?_⟩))⟩)⟩)⟩
    refine ⟨.inl ⟨rfl, _, SqL.of hb⟩, he.snd G F H σ ρ _ _ S hT fun y dy F1 H1 ρ1 u1 S1 ry q1 => ?_⟩
    obtain ⟨rfl, q⟩ := q1
    obtain ⟨_, _, _, _, ⟨nn, _, _, hR1⟩, _⟩ := S1.bx.box i _ e0
    obtain ⟨v1, _, hok⟩ := hR1.at' hs1
    obtain ⟨us1, ha1, ra1⟩ := hok.2.2.2
    have S2 := tw_change (us := us1 ++ [y]) (s' := { s1[j] with ys := s1[j].ys ++ [dy] }) S1 e0 hs1 (p := s1[j].b) (by simp [Sti.foot]) rfl ⟨us1, ha1⟩ fun v hv => by
      obtain ⟨g1, g2, ⟨us2, g3, g4⟩, ws2, g5, g6⟩ := hv
      rw [ha1] at g5; cases g5
      have hab : s1[j].a ≠ s1[j].b := fun z => by
        have h3 : s1[j].foot.Nodup := foot_nodup (List.nodup_cons.mp nn).2 mem
        exact (List.nodup_cons.mp h3).1 (by rw [z]; exact List.mem_singleton.mpr rfl)
      exact ⟨g1, g2, ⟨us2, by rw [upd_ne hab]; exact g3, g4⟩, us1 ++ [y], upd_same, g6.append (.one ry)⟩
    refine ⟨s1[j].b, us1, y, rfl, rfl, ha1, by rw [ra1.length]; exact Nat.lt_of_lt_of_le (show s1[j].ys.length < 2000 by have := (hlen _ mem).2; omega) (by decide), r.nx F1 _ _ _ u1 S2 (q _ (List.length_set ..) fun s hs => ?_)⟩
    rcases List.mem_or_eq_of_mem_set hs with h | rfl
    · exact ⟨by have := (hlen s h).1; omega, by have := (hlen s h).2; omega⟩
    · exact ⟨by have := (hlen _ mem).1; show s1[j].xs.length ≤ _; omega, by show (s1[j].ys ++ [dy]).length ≤ _; rw [List.length_append]; have := (hlen _ mem).2; show _ + 1 ≤ _; omega⟩⟩
end
end Pl
namespace L2
open PySem PySem.Spec PyProof.Rows
def tCallF (f0 f1 : Addr) (sp0 sp1 : Sp) (E : St → XK) (tf : TE) (t : TA) : TE := fun σ H Q => tf σ H fun v H1 => ∃ sp, ((v = .ref f0 ∧ sp = sp0) ∨ (v = .ref f1 ∧ sp = sp1)) ∧ t σ H1 fun vs H2 => sp vs H2 Q (E σ)
section
variable {X : Cx} {CX : CXT} {k : Nat} {f0 f1 : Addr} {fd0 fd1 : FuncData} {ps0 ps1 : List Str} {sp0 sp1 : Sp} {E : St → XK} {pos : Pos} {fx e : Expr} {es : List Expr} {t : TA} {tf : TE}
theorem pe_callF (F0 : FnOk X.prog X.w X.K X.mg X.base CX k f0 fd0 ps0 sp0) (F1 : FnOk X.prog X.w X.K X.mg X.base CX k f1 fd1 ps1 sp1) (hr : Room k X.A) (hk0 : PySem.W.keepIn X.K (.ref f0) = true) (hk1 : PySem.W.keepIn X.K (.ref f1) = true) (hb0 : Binds X.K fd0 ps0 []) (hb1 : Binds X.K fd1 ps1 []) (hx : ∀ σ, PassesAt CX X σ (E σ))
    (hf : PE X fx tf) (ha : PA X (e :: es) t) (hev : eval (.Call fx (e :: es) [] pos) X.env = (do callWith pos (← eval fx X.env) [] (backTo pos (starEach (e :: es) X.env)) (backToKw pos (keywordEach [] X.env))) := by rfl)
    (he : starEach (e :: es) X.env = (false, eval e X.env) :: starEach es X.env := by rfl) (hpl : (backTo pos (starEach es X.env)).any (·.1) = false := by rfl) : PE X (.Call fx (e :: es) [] pos) (tCallF f0 f1 sp0 sp1 E tf t) := by
  refine ⟨fun pins s σ H Q I h => ?_⟩
  rw [hev]
  refine wpAny_bind (thn (hf.run pins s σ H _ I h) fun u s1 ⟨v, H1, I1, r1, q1⟩ => ?_)
  obtain ⟨sp, hv, ht⟩ := q1
  rcases hv with ⟨rfl, rfl⟩ | ⟨rfl, rfl⟩
  · cases r1
    refine PySem.W.callWith_K (h₀ := X.base) I1.ok.mod.kin hk0 (thn (ha.run pos pins s1 σ H1 _ I1 ht) fun us s2 ⟨vs, H2, I2, r, q⟩ => ⟨I2.kIn, ?_⟩) he hpl
    exact run_fnSD F0 hr hb0 .nil (hx σ) I2 r (by rw [List.append_nil]; exact q)
  · cases r1
    refine PySem.W.callWith_K (h₀ := X.base) I1.ok.mod.kin hk1 (thn (ha.run pos pins s1 σ H1 _ I1 ht) fun us s2 ⟨vs, H2, I2, r, q⟩ => ⟨I2.kIn, ?_⟩) he hpl
    exact run_fnSD F1 hr hb1 .nil (hx σ) I2 r (by rw [List.append_nil]; exact q)
end
end L2
namespace Pl
open PySem PySem.Spec PyProof.Rows L2
section
variable [TJ] {X : Cx} {k : Nat} {f0 f1 : Addr} {fd0 fd1 : FuncData} {ps0 ps1 : List Str} {y0 y1 : Str} {q0 q1 lp sp pos : Pos} {ix e : Expr} {es : List Expr} {ti : TE} {Ti : TEp} {t : TA} {T : TAp}
abbrev tFns (K : PySem.W.Frag) (f0 f1 : Addr) (ti : TE) : TE := tOp (rIxA K) (tLst (tCons (tC (.ref f0)) (tCons (tC (.ref f1)) tNil))) ti
theorem pe_fns (hg0 : Gl X y0) (hm0 : X.mg y0 = some (.ref f0)) (hg1 : Gl X y1) (hm1 : X.mg y1 = some (.ref f1)) (hi : PPE X ix ti Ti) (hd0 : (y0 == ("__debug__" : Str)) = false := by decide) (hd1 : (y1 == ("__debug__" : Str)) = false := by decide) (hpl : PlainIx ix := by exact fun _ _ => rfl)
    (hs0 : starEach [.Name y0 q0, .Name y1 q1] X.env = (false, eval (.Name y0 q0) X.env) :: starEach [.Name y1 q1] X.env := by rfl) (hs1 : starEach [.Name y1 q1] X.env = (false, eval (.Name y1 q1) X.env) :: starEach [] X.env := by rfl) :
    PE X (.Subscript (.List [.Name y0 q0, .Name y1 q1] lp) ix sp) (tFns X.K f0 f1 ti) := pe_ix ix_any (pe_lst (pa_cons (pe_glob hg0 hm0 (show L2.RelV (V.ref f0) (.ref f0) from rfl) hd0) (pa_cons (pe_glob hg1 hm1 (show L2.RelV (V.ref f1) (.ref f1) from rfl) hd1) pa_nil hs1) hs0)) hi.pe hpl
def pCallPk (g0 g1 : FA) (Ti : TEp) (T : TAp) : TCp := fun ρ Q => Ti ρ fun d ρ1 => (d = .int 0 ∧ T ρ1 fun ds ρ2 => ds.length = 2 ∧ g0 ds fun c => Q c ρ2) ∨ (d = .int 1 ∧ T ρ1 fun ds ρ2 => ds.length = 2 ∧ g1 ds fun c => Q c ρ2)
theorem callA_snd {K : PySem.W.Frag} {G F H : Hp} {σ : L2.St} {ρ : Ro} {g : FA} {Q : Cell → Ro → Prop} {R : VK} (ha : SndA K t T) (S : Sim K G F H σ ρ) (hT : T ρ fun ds ρ2 => ds.length = 2 ∧ g ds fun c => Q c ρ2)
    (k : ∀ (v : V) (c : Cell) (F' H' : Hp) (ρ' : Ro), Up G F F' → Sim K G F' H' (σ ++ [some v]) (ρ' ++ [some c]) → Q c ρ' → R v H') {E : XK} : t σ H fun vs H1 => spA K 2 g vs H1 R E :=
  ha G F H σ ρ _ _ S hT fun vs ds F1 H1 ρ1 u1 S1 r1 h1 => ⟨F1, ds, _, by rw [r1.length]; exact h1.1, S1.hF, r1, h1.2, fun v c F' H' u S' q => k v c F' H' ρ1 (u1.trans (u.less S1.hG)) (S1.afterA u S') q⟩
theorem ppc_callPk {g0 g1 : FA} (Fn0 : FnOk X.prog X.w X.K X.mg X.base CX0 k f0 fd0 ps0 (spA X.K 2 g0)) (Fn1 : FnOk X.prog X.w X.K X.mg X.base CX0 k f1 fd1 ps1 (spA X.K 2 g1)) (hr : Room k X.A) (hg0 : Gl X y0) (hm0 : X.mg y0 = some (.ref f0)) (hk0 : PySem.W.keepIn X.K (.ref f0) = true) (hb0 : Binds X.K fd0 ps0 []) (hg1 : Gl X y1) (hm1 : X.mg y1 = some (.ref f1)) (hk1 : PySem.W.keepIn X.K (.ref f1) = true) (hb1 : Binds X.K fd1 ps1 [])
    (hi : PPE X ix ti Ti) (ha : PPA X (e :: es) t T) (hd0 : (y0 == ("__debug__" : Str)) = false := by decide) (hd1 : (y1 == ("__debug__" : Str)) = false := by decide) (hplx : PlainIx ix := by exact fun _ _ => rfl)
    (hs0 : starEach [.Name y0 q0, .Name y1 q1] X.env = (false, eval (.Name y0 q0) X.env) :: starEach [.Name y1 q1] X.env := by rfl) (hs1 : starEach [.Name y1 q1] X.env = (false, eval (.Name y1 q1) X.env) :: starEach [] X.env := by rfl)
    (he : starEach (e :: es) X.env = (false, eval e X.env) :: starEach es X.env := by rfl) (hpl : (backTo pos (starEach es X.env)).any (·.1) = false := by rfl) :
    PPC X (.Call (.Subscript (.List [.Name y0 q0, .Name y1 q1] lp) ix sp) (e :: es) [] pos) (tCallF f0 f1 (spA X.K 2 g0) (spA X.K 2 g1) (fun _ _ _ _ => False) (tFns X.K f0 f1 ti) t) (pCallPk g0 g1 Ti T) :=
  ⟨pe_callF Fn0 Fn1 hr hk0 hk1 hb0 hb1 (fun σ pins H s e s' I z => z.elim) (pe_fns hg0 hm0 hg1 hm1 hi hd0 hd1 hplx hs0 hs1) ha.pa rfl he hpl, fun G F H σ ρ Q R S hT kk => by
    have hT : Ti ρ fun d ρ1 => (d = .int 0 ∧ T ρ1 fun ds ρ2 => ds.length = 2 ∧ g0 ds fun c => Q c ρ2) ∨ (d = .int 1 ∧ T ρ1 fun ds ρ2 => ds.length = 2 ∧ g1 ds fun c => Q c ρ2) := hT
    show tFns X.K f0 f1 ti σ H _
    refine ⟨by show (2 : Nat) ≤ sizeLine; decide, fun p hp => ?_⟩
    have S2 := S.more (o := .lst [.ref f0, .ref f1]) hp
    have hF : F p = none := S.freshF hp
    have hG : G p = none := S.freshG hp
    have hn : NotOwn ρ p := S.notOwn hp
    have Sg := S2.guardA (as := [p]) fun q m => by rw [List.mem_singleton.mp m]; exact ⟨⟨_, upd_same, trivial⟩, hn⟩
    have hGG : Same G (guardF G (upd H p (.lst [.ref f0, .ref f1])) [p]) := same_guard fun q m => by rw [List.mem_singleton.mp m]; exact hG
    refine hi.snd _ F _ σ ρ _ _ Sg hT fun w dw F2 H2 ρ2 u2 S3 r2 q2 => ?_
    have kp := keptA (as := [p]) (fun q m => by rw [List.mem_singleton.mp m]; exact ⟨hF, _, upd_same⟩) u2 S3
    have hH2 : H2 p = some (.lst [.ref f0, .ref f1]) := by rw [(kp p (List.mem_singleton.mpr rfl)).2.2]; exact upd_same
    have S4 := S3.unguardB hGG
    have up := u2.less hGG
    rcases q2 with ⟨rfl, q⟩ | ⟨rfl, q⟩
    · cases r2
      exact .inl ⟨p, _, 0, _, rfl, rfl, SqL.of hH2, rfl, _, .inl ⟨rfl, rfl⟩, callA_snd ha.snd S4 q fun v c F' H' ρ' u S' q => kk v c F' H' ρ' (up.trans u) S' q⟩
    · cases r2
      exact .inl ⟨p, _, 1, _, rfl, rfl, SqL.of hH2, rfl, _, .inr ⟨rfl, rfl⟩, callA_snd ha.snd S4 q fun v c F' H' ρ' u S' q => kk v c F' H' ρ' (up.trans u) S' q⟩⟩
def xCallPk (g0 g1 : FX) (Ti : TEp) (T : TAp) : TXe := fun ρ xx => Ti ρ fun d ρ1 => (d = .int 0 ∧ T ρ1 fun ds ρ2 => ds.length = 2 ∧ g0 ds fun x => xx x ρ2) ∨ (d = .int 1 ∧ T ρ1 fun ds ρ2 => ds.length = 2 ∧ g1 ds fun x => xx x ρ2)
theorem callX_snd {W : WX} {G F H : Hp} {σ : L2.St} {ρ : Ro} {g : FX} {xx : XP} {R : VK} (ha : SndA X.K t T) (S : Sim X.K G F H σ ρ) (hT : T ρ fun ds ρ2 => ds.length = 2 ∧ g ds fun x => xx x ρ2) (hx : XRel X.K W G F xx) : t σ H fun vs H1 => spX X.K 2 g vs H1 R (WE W σ) :=
  ha G F H σ ρ _ _ S hT fun vs ds F1 H1 ρ1 u1 S1 r1 h1 => ⟨F1, ds, _, by rw [r1.length]; exact h1.1, S1.hF, r1, h1.2, fun x cls d F' H' u hF hH xr q => by
    have u' : Up G F1 F' := u.less S1.hG
    exact hx F' H' σ ρ1 cls d x (u1.trans u') (S1.grow u' hF hH (fun a o ha _ hf => u.isNone hf ha) u.out) xr q⟩
theorem pxe_callPk {W : WX} {g0 g1 : FX} (Fn0 : FnOk X.prog X.w X.K X.mg X.base (L2.CX X.prog X.w) k f0 fd0 ps0 (spX X.K 2 g0)) (Fn1 : FnOk X.prog X.w X.K X.mg X.base (L2.CX X.prog X.w) k f1 fd1 ps1 (spX X.K 2 g1)) (tk : Takes X W) (hr : Room k X.A) (hg0 : Gl X y0) (hm0 : X.mg y0 = some (.ref f0)) (hk0 : PySem.W.keepIn X.K (.ref f0) = true) (hb0 : Binds X.K fd0 ps0 []) (hg1 : Gl X y1) (hm1 : X.mg y1 = some (.ref f1)) (hk1 : PySem.W.keepIn X.K (.ref f1) = true) (hb1 : Binds X.K fd1 ps1 [])
    (hi : PPE X ix ti Ti) (ha : PPA X (e :: es) t T) (hd0 : (y0 == ("__debug__" : Str)) = false := by decide) (hd1 : (y1 == ("__debug__" : Str)) = false := by decide) (hplx : PlainIx ix := by exact fun _ _ => rfl)
    (hs0 : starEach [.Name y0 q0, .Name y1 q1] X.env = (false, eval (.Name y0 q0) X.env) :: starEach [.Name y1 q1] X.env := by rfl) (hs1 : starEach [.Name y1 q1] X.env = (false, eval (.Name y1 q1) X.env) :: starEach [] X.env := by rfl)
    (he : starEach (e :: es) X.env = (false, eval e X.env) :: starEach es X.env := by rfl) (hpl : (backTo pos (starEach es X.env)).any (·.1) = false := by rfl) :
    PXE X W (.Call (.Subscript (.List [.Name y0 q0, .Name y1 q1] lp) ix sp) (e :: es) [] pos) (tCallF f0 f1 (spX X.K 2 g0) (spX X.K 2 g1) (WE W) (tFns X.K f0 f1 ti) t) (xCallPk g0 g1 Ti T) :=
  ⟨pe_callF Fn0 Fn1 hr hk0 hk1 hb0 hb1 (passAt tk) (pe_fns hg0 hm0 hg1 hm1 hi hd0 hd1 hplx hs0 hs1) ha.pa rfl he hpl, fun G F H σ ρ xx R S hT hx => by
    have hT : Ti ρ fun d ρ1 => (d = .int 0 ∧ T ρ1 fun ds ρ2 => ds.length = 2 ∧ g0 ds fun x => xx x ρ2) ∨ (d = .int 1 ∧ T ρ1 fun ds ρ2 => ds.length = 2 ∧ g1 ds fun x => xx x ρ2) := hT
    show tFns X.K f0 f1 ti σ H _
    refine ⟨by show (2 : Nat) ≤ sizeLine; decide, fun p hp => ?_⟩
    have S2 := S.more (o := .lst [.ref f0, .ref f1]) hp
    have hF : F p = none := S.freshF hp
    have hG : G p = none := S.freshG hp
    have hn : NotOwn ρ p := S.notOwn hp
    have Sg := S2.guardA (as := [p]) fun q m => by rw [List.mem_singleton.mp m]; exact ⟨⟨_, upd_same, trivial⟩, hn⟩
    have hGG : Same G (guardF G (upd H p (.lst [.ref f0, .ref f1])) [p]) := same_guard fun q m => by rw [List.mem_singleton.mp m]; exact hG
    refine hi.snd _ F _ σ ρ _ _ Sg hT fun w dw F2 H2 ρ2 u2 S3 r2 q2 => ?_
    have kp := keptA (as := [p]) (fun q m => by rw [List.mem_singleton.mp m]; exact ⟨hF, _, upd_same⟩) u2 S3
    have hH2 : H2 p = some (.lst [.ref f0, .ref f1]) := by rw [(kp p (List.mem_singleton.mpr rfl)).2.2]; exact upd_same
    have S4 := S3.unguardB hGG
    have hx2 := hx.mono (u2.less hGG)
    rcases q2 with ⟨rfl, q⟩ | ⟨rfl, q⟩
    · cases r2
      exact .inl ⟨p, _, 0, _, rfl, rfl, SqL.of hH2, rfl, _, .inl ⟨rfl, rfl⟩, callX_snd ha.snd S4 q hx2⟩
    · cases r2
      exact .inl ⟨p, _, 1, _, rfl, rfl, SqL.of hH2, rfl, _, .inr ⟨rfl, rfl⟩, callX_snd ha.snd S4 q hx2⟩⟩
end
section
variable [TJ] {X : Cx} {ix e : Expr} {ti te : TE} {Ti Te : TEp} {pos : Pos}
def pPickApp (j0 j1 : Nat) (Ti Te : TEp) : TSp := fun P ρ => ∃ a b, (∃ xs, ρ[j0]? = some (some (.own a xs))) ∧ (∃ ys, ρ[j1]? = some (some (.own b ys))) ∧ Ti ρ fun z ρ0 => ∃ j c, ((z = .int 0 ∧ j = j0 ∧ c = a) ∨ (z = .int 1 ∧ j = j1 ∧ c = b)) ∧ (∃ xs, ρ0[j]? = some (some (.own c xs))) ∧
  Te ρ0 fun y ρ1 => ∃ xs, ρ1[j]? = some (some (.own c xs)) ∧ xs.length < sizeLine ∧ P.nx (ρ1.set j (some (.own c (xs ++ [y]))))
theorem pps_pickApp (j0 j1 : Nat) {x0 x1 : Str} {p0 p1 lp sp ap cp : Pos} (hi : PPE X ix ti Ti) (he : PPE X e te Te) (hN0 : X.N[j0]? = some x0 := by rfl) (hN1 : X.N[j1]? = some x1 := by rfl) (hv0 : Vis X.env.scope x0 := by first | exact Or.inl rfl | exact Or.inr (Or.inl rfl) | exact Or.inr (Or.inr rfl)) (hv1 : Vis X.env.scope x1 := by first | exact Or.inl rfl | exact Or.inr (Or.inl rfl) | exact Or.inr (Or.inr rfl)) (hd0 : (x0 == ("__debug__" : Str)) = false := by decide) (hcd0 : (x0 == ("__classdict__" : Str)) = false := by decide) (hd1 : (x1 == ("__debug__" : Str)) = false := by decide) (hcd1 : (x1 == ("__classdict__" : Str)) = false := by decide)
    (hpl : PlainIx ix := by exact fun _ _ => rfl) (hsa : starEach [.Name x0 p0, .Name x1 p1] X.env = (false, eval (.Name x0 p0) X.env) :: starEach [.Name x1 p1] X.env := by rfl) (hsb : starEach [.Name x1 p1] X.env = (false, eval (.Name x1 p1) X.env) :: starEach [] X.env := by rfl)
    (hbase : attributeBase (.Subscript (.List [.Name x0 p0, .Name x1 p1] lp) ix sp) "append" X.env (eval (.Subscript (.List [.Name x0 p0, .Name x1 p1] lp) ix sp) X.env) = eval (.Subscript (.List [.Name x0 p0, .Name x1 p1] lp) ix sp) X.env := by rfl)
    (hfew : ((backTo cp (starEach [e] X.env)).all (fun x => !x.1) && (backToKw cp (keywordEach [] X.env)).all (fun x => x.1.isSome)
      && decide ([e].length + ([] : List Keyword).length + (if ([] : List Keyword).isEmpty then 0 else 1) < 30)) = true := by rfl)
    (hline : (ap.endLine == cp.line) = true := by rfl) (hs : starEach [e] X.env = (false, eval e X.env) :: starEach [] X.env := by rfl)
    (hsw : swapsWith (.Call (.Attribute (.Subscript (.List [.Name x0 p0, .Name x1 p1] lp) ix sp) "append" ap) [e] [] cp) none pos.line X.env = pure false := by rfl) :
    PPS X (.Expr (.Call (.Attribute (.Subscript (.List [.Name x0 p0, .Name x1 p1] lp) ix sp) "append" ap) [e] [] cp) pos) (tDrop (tBM X.K "list" rAppend (tOp (rIxA X.K) (tLst (tCons (tVar j0) (tCons (tVar j1) tNil))) ti) (tCons te tNil))) (pPickApp j0 j1 Ti Te) :=
  ⟨ps_expr (pe_bm PySem.F.plainAttrs_list PySem.F.slot_list_append PySem.F.type_list_append mt_append (pe_ix ix_any (pe_lst (pa_cons (pe_var hN0 hv0 hd0 hcd0) (pa_cons (pe_var hN1 hv1 hd1 hcd1) pa_nil hsb) hsa)) hi.pe hpl) (pa_cons he.pe pa_nil hs) hbase hfew hline hs rfl) hsw, fun G F H σ ρ P D S hT r => by
    obtain ⟨a, b, ⟨xs0, e0⟩, ⟨ys0, e1⟩, hT⟩ := hT
    obtain ⟨b0, _, _, _, ha0, _⟩ := S.own j0 a xs0 e0
    obtain ⟨b1, _, _, _, hb0, _⟩ := S.own j1 b ys0 e1
    refine ⟨.ref a, b0, .ref b, b1, by show (2 : Nat) ≤ sizeLine; decide, fun p hp => ?_⟩
    have S2 := S.more (o := .lst [.ref a, .ref b]) hp
    have hF : F p = none := S.freshF hp
    have hG : G p = none := S.freshG hp
    have hn : NotOwn ρ p := S.notOwn hp
    have Sg := S2.guardA (as := [p]) fun q m => by rw [List.mem_singleton.mp m]; exact ⟨⟨_, upd_same, trivial⟩, hn⟩
    have hGG : Same G (guardF G (upd H p (.lst [.ref a, .ref b])) [p]) := same_guard fun q m => by rw [List.mem_singleton.mp m]; exact hG
    refine hi.snd _ F _ σ ρ _ _ Sg hT fun w dw F2 H2 ρ2 u2 S3 r2 q2 => ?_
    have kp := keptA (as := [p]) (fun q m => by rw [List.mem_singleton.mp m]; exact ⟨hF, _, upd_same⟩) u2 S3
    have hH2 : H2 p = some (.lst [.ref a, .ref b]) := by rw [(kp p (List.mem_singleton.mpr rfl)).2.2]; exact upd_same
    have S4 := S3.unguardB hGG
    have up := u2.less hGG
    obtain ⟨j, c, hd, ⟨xs1, e2⟩, q⟩ := q2
    obtain ⟨g1, _, _, us, hc, _⟩ := S4.own j c xs1 e2
    have fin : ∀ {R : VK}, R = (fun _ H1 => D.nx σ H1) → (tyV X.K "list" (.ref c) H2 ∧ (tCons te tNil) σ H2 fun vs H3 => rAppend (.ref c) vs H3 R) := fun {R} hR => by
      subst hR
      refine ⟨.inl ⟨rfl, _, SqL.of hc⟩, he.snd G F2 H2 σ ρ2 _ _ S4 q fun y dy F3 H3 ρ3 u3 S5 ry q3 => ?_⟩
      obtain ⟨xs2, e3, hz, qq⟩ := q3
      obtain ⟨_, _, _, vs, hc3, rc⟩ := S5.own j c xs2 e3
      exact ⟨c, vs, y, rfl, rfl, hc3, by rw [rc.length]; exact hz, r.nx F3 _ _ _ (up.trans u3) (S5.mut e3 (rc.append (.one ry))) qq⟩
    rcases hd with ⟨rfl, rfl, rfl⟩ | ⟨rfl, rfl, rfl⟩
    · cases r2
      exact .inl ⟨p, _, 0, _, rfl, rfl, SqL.of hH2, rfl, fin rfl⟩
    · cases r2
      exact .inl ⟨p, _, 1, _, rfl, rfl, SqL.of hH2, rfl, fin rfl⟩⟩
end
end Pl
namespace Pl
open PySem PySem.Spec PyProof.Rows L2
section
variable [TJ] {X : Cx} {k : Nat} {f : Addr} {fd : FuncData} {ps : List Str} {x y : Str} {p py sp lp pos : Pos} {x1 e1 e : Expr} {t1 tc te : TE} {Tc : TCp} {Te : TEp}
def pCallTw2 (i : Nat) (g : FA) (Tc : TCp) (Te : TEp) : TEp := fun ρ Q => ∃ r r2 s2, (∃ r1 s1, ρ[i]? = some (some (twB r r1 s1 r2 s2))) ∧ Tc ρ fun c ρ1 => ∃ r3 s3, c = stB r3 s3 ∧ Te ρ1 fun d ρ2 => (∃ r1 s1, ρ2[i]? = some (some (twB r r1 s1 r2 s2))) ∧ g [twD s2 s3, d] fun c => ∃ b, c = .val (.bl b) ∧ Q (.bl b) ρ2
theorem ppe_callTw2 (i : Nat) {g : FA} (Fn : FnOk X.prog X.w X.K X.mg X.base CX0 k f fd ps (spA X.K 2 g)) (hr : Room k X.A) (hg : Gl X x) (hm : X.mg x = some (.ref f)) (hk : PySem.W.keepIn X.K (.ref f) = true) (hb : Binds X.K fd ps []) (h1 : PE X x1 t1) (c1 : ∀ (σ : L2.St) (H : Hp) (Q : VK), Q (.int 1) H → t1 σ H Q) (hc : PPC X e1 tc Tc) (he : PPE X e te Te)
    (hN : X.N[i]? = some y := by rfl) (hv : Vis X.env.scope y := by first | exact Or.inl rfl | exact Or.inr (Or.inl rfl) | exact Or.inr (Or.inr rfl)) (hd : (y == ("__debug__" : Str)) = false := by decide) (hcd : (y == ("__classdict__" : Str)) = false := by decide) (hpx : PlainIx x1 := by exact fun _ _ => rfl)
    (hdb : (x == ("__debug__" : Str)) = false := by decide) (hs : starEach [.List [.Subscript (.Name y py) x1 sp, e1] lp, e] X.env = (false, eval (.List [.Subscript (.Name y py) x1 sp, e1] lp) X.env) :: starEach [e] X.env := by rfl) (hs2 : starEach [e] X.env = (false, eval e X.env) :: starEach [] X.env := by rfl) (hpl : (backTo pos (starEach [e] X.env)).any (·.1) = false := by rfl)
    (hl1 : starEach [.Subscript (.Name y py) x1 sp, e1] X.env = (false, eval (.Subscript (.Name y py) x1 sp) X.env) :: starEach [e1] X.env := by rfl) (hl2 : starEach [e1] X.env = (false, eval e1 X.env) :: starEach [] X.env := by rfl) :
    PPE X (.Call (.Name x p) [.List [.Subscript (.Name y py) x1 sp, e1] lp, e] [] pos) (tCall (spA X.K 2 g) [] (fun _ _ _ => False) (tCons (tLst (tCons (tOp (rIxA X.K) (tVar i) t1) (tCons tc tNil))) (tCons te tNil))) (pCallTw2 i g Tc Te) :=
  ⟨pe_call Fn hr hg hm hk hb .nil pass0 (pa_cons (pe_lst (pa_cons (pe_ix ix_any (pe_var hN hv hd hcd) h1 hpx) (pa_cons hc.pe pa_nil hl2) hl1)) (pa_cons he.pe pa_nil hs2) hs) hdb hs hpl, fun G F H σ ρ Q R S hT kk => by
  obtain ⟨r, r2, s2, ⟨r1, s1, e0⟩, hT⟩ := hT
  obtain ⟨b1, _, _, hr0, _, _⟩ := S.bx.box i _ e0
  refine ⟨.ref r, b1, c1 _ _ _ (.inl ⟨r, _, 1, .ref r2, rfl, rfl, SqL.of hr0, rfl, hc.snd G F H σ ρ _ _ S hT fun v c F1 H1 ρ1 u1 S1 q1 => ?_⟩)⟩
  obtain ⟨r3, s3, rfl, q1⟩ := q1
  have hcb := S1.lastB
  have hv3 : v = .ref r3 := hcb.1.1
  subst hv3
  refine ⟨by show (2 : Nat) ≤ sizeLine; decide, fun pp hp => ?_⟩
  have Sd := S1.drop
  have S2 := Sd.more (o := .lst [.ref r2, .ref r3]) hp
  have cb2 := hcb.more (o := .lst [.ref r2, .ref r3]) hp
  have hF : F1 pp = none := Sd.freshF hp
  have hG : G pp = none := Sd.freshG hp
  have hn : NotOwn ρ1 pp := Sd.notOwn hp
  have hA : ∀ q ∈ pp :: (stB r3 s3).foot, F1 q = none ∧ G q = none ∧ NotOwn ρ1 q ∧ ∃ o, upd H1 pp (.lst [.ref r2, .ref r3]) q = some o ∧ Mut o := fun q m => by
    rcases List.mem_cons.mp m with rfl | m
    · exact ⟨hF, hG, hn, _, upd_same, trivial⟩
    · exact ⟨(cb2.2 q m).1, (cb2.2 q m).2.1, (cb2.2 q m).2.2, cb2.live m⟩
  have Sg := S2.guardA (as := pp :: (stB r3 s3).foot) fun q m => ⟨(hA q m).2.2.2, (hA q m).2.2.1⟩
  have hGG : Same G (guardF G (upd H1 pp (.lst [.ref r2, .ref r3])) (pp :: (stB r3 s3).foot)) := same_guard fun q m => (hA q m).2.1
  refine he.snd _ F1 _ σ ρ1 _ _ Sg q1 fun w d F2 H2 ρ2 u2 S3 rv q2 => ?_
  obtain ⟨⟨r1', s1', e2⟩, hg⟩ := q2
  have kp := keptA (fun q m => ⟨(hA q m).1, let ⟨o, ho, _⟩ := (hA q m).2.2.2; ⟨o, ho⟩⟩) u2 S3
  have hH2 : H2 pp = some (.lst [.ref r2, .ref r3]) := by rw [(kp pp List.mem_cons_self).2.2]; exact upd_same
  have S4 := S3.unguardB hGG
  have at3 : (stS r3 s3).at' X.K F2 H2 := (stS r3 s3).mono cb2.1.2 u2.ex fun q m => (kp q (List.mem_cons_of_mem _ m)).2.2
  obtain ⟨_, g2, _, _, _, at2⟩ := S4.bx.box i _ e2
  have nf : ∀ q ∈ pp :: ((r2 :: stFoot s2) ++ (r3 :: stFoot s3)), F2 q = none := fun q m => by
    rcases List.mem_cons.mp m with rfl | m
    · exact (kp q List.mem_cons_self).1
    · rcases List.mem_append.mp m with m | m
      · exact (g2 q (List.mem_cons_of_mem _ (List.mem_append_right _ m))).1
      · exact (kp q (List.mem_cons_of_mem _ m)).1
  have sF := frzL_same (H := H2) nf
  have rp : Rep X.K (frzL F2 H2 (pp :: ((r2 :: stFoot s2) ++ (r3 :: stFoot s3)))) (.ref pp) (twD s2 s3) := .lst (by rw [frzL_in List.mem_cons_self]; exact hH2) (.cons (stS_rep at2 sF fun q m => frzL_in (List.mem_cons_of_mem _ (List.mem_append_left _ m))) (.one (stS_rep at3 sF fun q m => frzL_in (List.mem_cons_of_mem _ (List.mem_append_right _ m)))))
  refine ⟨_, [twD s2 s3, d], _, rfl, frzL_sub S4.hF, .cons rp (.one (rv.mono sF)), hg, fun v' c F' H' u S' q => ?_⟩
  obtain ⟨b, rfl, q⟩ := q
  obtain ⟨rfl, S5⟩ := after_bl S4 S'
  exact kk _ _ F2 H' ρ2 (u1.trans (u2.less hGG)) S5 (.bl b) q⟩
end
end Pl
namespace Pl
open PySem PySem.Spec PyProof.Rows L2
def row (c : Bool) (s : Int) (ns : List Int) (i : Int) : List Int := if c = true then reach s ns i else reachF s ns i
def Wn (w : D) (c : Bool) (s : Int) : Prop := w = windD c s ∨ w = .lst [.str (wordS c), .int s]
def g_blownW : FA := fun ds C => ∃ d ns w c s, ds = [d, w] ∧ Sq d ns ∧ Wn w c s ∧ ns ≠ [] ∧ ns.length ≤ 1000 ∧ C (.val (tD (blownL c s ns)))
theorem rd_blownW : ∀ ds C, ds.length = 2 → g_blownW ds C → T_blown g_upside g_cut_to { nx := fun _ => C (.val .non), rt := fun c _ => C c } (startA N_blown ds) := by
  rintro ds C - ⟨d, ns, w, cut, s, rfl, hd, hw, hne, hl, hC⟩
  rcases hw with rfl | rfl
  · exact rd_blown _ C rfl ⟨d, ns, cut, s, rfl, hd, hne, hl, hC⟩
  · cases cut with
    | true =>
      refine ⟨rfl, rfl, sh_cut, sh_cut, ifT (by decide +kernel) ?_⟩
      exact ⟨rfl, d, ns, s, rfl, hd, hne, hl, hC⟩
    | false =>
      refine ⟨rfl, rfl, sh_fill, sh_cut, ifF (by decide +kernel) ?_⟩
      refine ⟨rfl, d, ns, rfl, hd, hl, rfl, _, _, s, rfl, .inl rfl, by simpa using hne, by simpa using hl, rfl, _, _, rfl, .inl rfl, by rw [cutTo_len]; simpa using hl, ?_⟩
      exact hC
def enumFrom (h : Nat → Int → D) (k : Nat) : List Int → List D
  | [] => []
  | x :: r => h k x :: enumFrom h (k + 1) r
end Pl
namespace Pl
open PySem PySem.Spec PyProof.Rows L2
theorem blW_keeps {l : List Int} {t : Int} {w : Wd} (hw : 0 ≤ w.2) (h : Gentle t l) : Gentle t (blW l w) := by
  rcases Int.le_total t w.2 with g | g
  · have : blW l w = l := (blown_idle (c := w.1) hw).mpr (h.mono g)
    rw [this]; exact h
  · exact (blown_gentle (c := w.1) hw l).mono g
theorem behindL_keeps {t : Int} : ∀ {ws : List Wd} {l : List Int}, (∀ w ∈ ws, 0 ≤ w.2) → Gentle t l → Gentle t (behindL l ws)
  | [], _, _, h => h
  | w :: ws, l, hw, h => behindL_keeps (ws := ws) (l := blW l w) (fun v hv => hw v (by simp [hv])) (blW_keeps (hw w (by simp)) h)
theorem behindL_gentle : ∀ {ws : List Wd} {l : List Int}, (∀ w ∈ ws, 0 ≤ w.2) → ∀ w ∈ ws, Gentle w.2 (behindL l ws)
  | [], _, _, _, h => by simp at h
  | v :: ws, l, hw, w, h => by
    have hw' : ∀ u ∈ ws, 0 ≤ u.2 := fun u hu => hw u (by simp [hu])
    rcases List.mem_cons.mp h with e | h
    · subst e
      exact behindL_keeps (ws := ws) (l := blW l w) hw' (blown_gentle (c := w.1) (hw w (by simp)) l)
    · exact behindL_gentle (ws := ws) (l := blW l v) hw' w h
theorem behindL_append (l : List Int) (a b : List Wd) : behindL l (a ++ b) = behindL (behindL l a) b := List.foldl_append
theorem cutD_to {xs : List D} {k : Nat} : cutD xs none (some (k : Int)) = xs.take k := by
  unfold cutD
  rw [HT.sIx_none, HT.sIx_nat, List.drop_zero, Nat.sub_zero]
  rcases Nat.le_total k xs.length with h | h
  · rw [Nat.min_eq_left h]
  · rw [Nat.min_eq_right h, List.take_of_length_le (Nat.le_refl _), List.take_of_length_le h]
theorem cutD_from {xs : List D} {k : Nat} : cutD xs (some (k : Int)) none = xs.drop k := by
  unfold cutD
  rw [HT.sIx_none, HT.sIx_nat]
  rcases Nat.le_total k xs.length with h | h
  · rw [Nat.min_eq_left h, List.take_of_length_le (by rw [List.length_drop]; exact Nat.le_refl _)]
  · rw [Nat.min_eq_right h, List.drop_eq_nil_of_le (Nat.le_refl _), List.drop_eq_nil_of_le h]; simp
theorem cutD_mid {xs : List D} {j k : Nat} (h : j ≤ k) : cutD xs (some (j : Int)) (some (k : Int)) = (xs.drop j).take (k - j) := by
  unfold cutD
  rw [HT.sIx_nat, HT.sIx_nat]
  rcases Nat.le_total k xs.length with g | g
  · rw [Nat.min_eq_left g, Nat.min_eq_left (by omega)]
  · rw [Nat.min_eq_right g]
    rcases Nat.le_total j xs.length with q | q
    · rw [Nat.min_eq_left q, List.take_of_length_le (by rw [List.length_drop]; exact Nat.le_refl _), List.take_of_length_le (by rw [List.length_drop]; omega)]
    · rw [Nat.min_eq_right q, List.drop_eq_nil_of_le (Nat.le_refl _), List.drop_eq_nil_of_le q]; simp
theorem windsD_append (a b : List Wd) : windsD a ++ windsD b = windsD (a ++ b) := by unfold windsD; rw [List.map_append]
theorem sh_word (c : Bool) : (D.str (wordS c)).sh := by cases c with | true => exact sh_cut | false => exact sh_fill
theorem canLay_wind (w : Wd) : PyData.canLay0 (toPy (windD w.1 w.2)) = true := by
  obtain ⟨c, s⟩ := w
  cases c with
  | true => show (PyData.canLay0 (.str "cut") && true) = true; decide +kernel
  | false => show (PyData.canLay0 (.str "fill") && true) = true; decide +kernel
end Pl
namespace Pl
open PySem PySem.Spec PyProof.Rows L2
abbrev N_handed : List Str := [("dune" : Str), ("post" : Str), ("by" : Str), ("at" : Str), ("height" : Str)]
def T_handed : TSp :=
  (pSeq (pIfS (pNot (pTest (pChain fLe fLt (pC (.int 0)) (pVar 1) (pLenO 0))))
    pNever
    pNext)
    (pRet (pVal (pCB fTup (pCons (pLc (jE (pCons (pVar 0) pNil)) (hTup 2 (hCons (hName 3) (hCons (hName 4) hNil))) pYes (pIf (pTest (pOp fEq (pVar 3) (pVar 1))) (pOp fAdd (pVar 4) (pVar 2)) (pVar 4)) [3, 4]) pNil)))))
abbrev N_almanac_of : List Str := [("cuts" : Str), ("fills" : Str), ("order" : Str), ("winds" : Str), ("cut" : Str), ("fill" : Str), ("sign" : Str)]
def T_almanac_of : TSp :=
  (pSeq (pSet 3 (pLstO pNil))
    (pSeq (pSet 4 (pVal (pC (.int 0))))
    (pSeq (pSet 5 (pVal (pC (.int 0))))
    (pSeq (pFor (jStr (pVar 2)) (hName 6)
    (pIfS (pTest (pOp fEq (pVar 6) (pC (.str "c"))))
    (pSeq (pAppend 3 (pTup (pCons (pC (.str "cut")) (pCons (pIxO 0 (pVar 4)) pNil))))
    (pAugI 4 (fun i j => i + j) (pC (.int 1))))
    (pSeq (pAppend 3 (pTup (pCons (pC (.str "fill")) (pCons (pIxO 1 (pVar 5)) pNil))))
    (pAugI 5 (fun i j => i + j) (pC (.int 1))))))
    (pRet (pMove 3))))))
abbrev N_are_contrary : List Str := [("one" : Str), ("other" : Str), ("of_cut" : Str), ("of_fill" : Str)]
def T_are_contrary : TSp :=
  (pSeq (pIfS (pTest (pOp fEq (pIxO 0 (pC (.int 0))) (pIxO 1 (pC (.int 0)))))
    (pRet (pVal (pC (.bl false))))
    pNext)
    (pSeq (pAsg (pIf (pTest (pOp fEq (pIxO 0 (pC (.int 0))) (pC (.str "cut")))) (pTup (pCons (pVar 0) (pCons (pVar 1) pNil))) (pTup (pCons (pVar 1) (pCons (pVar 0) pNil)))) (hTup 2 (hCons (hName 2) (hCons (hName 3) hNil))))
    (pRet (pVal (pAndV (pOp fLe (pIxO 3 (pC (.int 1))) (pIxO 2 (pC (.int 1)))) (pOp fLe (pIxO 2 (pC (.int 2))) (pIxO 3 (pC (.int 2)))))))))
abbrev N_first_clash : List Str := [("words" : Str), ("one" : Str), ("other" : Str)]
def T_first_clash (g_are_contrary : FA) : TSp :=
  (pSeq (pFor (jRng1 (pCons (pLenO 0) pNil)) (hName 1)
    (pFor (jRng2 (pCons (pOp fAdd (pVar 1) (pC (.int 1))) (pCons (pLenO 0) pNil))) (hName 2)
    (pIfS (pTest (pFrz (pCallA 2 g_are_contrary (pCons (pIxO 0 (pVar 1)) (pCons (pIxO 0 (pVar 2)) pNil)))))
    (pRet (pVal (pTup (pCons (pVar 1) (pCons (pVar 2) pNil)))))
    pNext)))
    (pRet (pVal (pC .non))))
abbrev N_refuse_clash : List Str := [("words" : Str), ("places" : Str)]
def T_refuse_clash (g_first_clash : FA) : TSp :=
  (pSeq (pSet 1 (pCallA 1 g_first_clash (pCons (pVar 0) pNil)))
    (pIfS (pTest (pOp fNotN (pVar 1) (pC .non)))
    pNever
    pNext))
abbrev N_least_ahead : List Str := [("words" : Str), ("fill" : Str), ("word" : Str), ("cut" : Str), ("at" : Str)]
def T_least_ahead : TSp :=
  (pRet (pVal (pDflt max (pLc (jSeq (pVar 0)) (hTup 3 (hCons (hName 2) (hCons (hName 3) (hCons (hName 4) hNil)))) (pAnd (pTest (pOp fEq (pVar 2) (pC (.str "cut")))) (pTest (pOp fLe (pVar 4) (pVar 1)))) (pOp fAdd (pVar 3) (pC (.int 1))) [2, 3, 4]) (pC (.int 0)))))
abbrev N_most_ahead : List Str := [("cuts" : Str), ("words" : Str), ("fill" : Str), ("word" : Str), ("cut" : Str), ("at" : Str)]
def T_most_ahead : TSp :=
  (pRet (pVal (pDflt min (pLc (jSeq (pVar 1)) (hTup 3 (hCons (hName 3) (hCons (hName 4) (hCons (hName 5) hNil)))) (pAnd (pTest (pOp fEq (pVar 3) (pC (.str "fill")))) (pTest (pOp fGe (pVar 5) (pVar 2)))) (pVar 4) [3, 4, 5]) (pLenO 0))))
abbrev N_bounds : List Str := [("cuts" : Str), ("fills" : Str), ("words" : Str), ("fill" : Str)]
def T_bounds (g_refuse_clash : FA) (g_least_ahead : FA) (g_most_ahead : FA) : TSp :=
  (pSeq (pDrop (pFrz (pCallA 1 g_refuse_clash (pCons (pVar 2) pNil))))
    (pRet (pLcO (jRng1 (pCons (pLenO 1) pNil)) (hName 3) pYes (pTup (pCons (pFrz (pCallA 2 g_least_ahead (pCons (pVar 2) (pCons (pVar 3) pNil)))) (pCons (pFrz (pCallA 3 g_most_ahead (pCons (pVar 0) (pCons (pVar 2) (pCons (pVar 3) pNil))))) pNil))) [3])))
abbrev N_ways_on : List Str := [("cuts" : Str), ("fills" : Str), ("words" : Str), ("rows" : Str), ("least" : Str), ("most" : Str)]
def T_ways_on (g_bounds : FA) (g_ways_ahead : FA) : TSp :=
  (pSeq (pSet 3 (pLstO (pCons (pOp fAdd (pOp fRep (pLst (pCons (pC (.int 1)) pNil)) (pOp fAdd (pLenO 0) (pC (.int 1)))) (pLst (pCons (pC (.int 0)) pNil))) pNil)))
    (pSeq (pFor (jSeq (pUn fRev (pFrz (pCallA 3 g_bounds (pCons (pVar 0) (pCons (pVar 1) (pCons (pVar 2) pNil))))))) (hTup 2 (hCons (hName 4) (hCons (hName 5) hNil)))
    (pAppend 3 (pFrz (pCallA 3 g_ways_ahead (pCons (pIxO 3 (pUn fNeg (pC (.int 1)))) (pCons (pVar 4) (pCons (pVar 5) pNil)))))))
    (pRet (pVal (pUn fRev (pVar 3))))))
abbrev N_ways_ahead : List Str := [("later" : Str), ("least" : Str), ("most" : Str), ("row" : Str), ("many" : Str), ("cut" : Str)]
def T_ways_ahead : TSp :=
  (pSeq (pSet 3 (pLstO pNil))
    (pSeq (pSet 4 (pVal (pC (.int 0))))
    (pSeq (pFor (jRev (pLenO 0)) (hName 5)
    (pSeq (pIfS (pTest (pChain fLe fLe (pVar 1) (pVar 5) (pVar 2)))
    (pAugI 4 (fun i j => i + j) (pIxO 0 (pVar 5)))
    pNext)
    (pAppend 3 (pVar 4))))
    (pRet (pVal (pUn fRev (pVar 3)))))))
abbrev N_orders_many : List Str := [("cuts" : Str), ("fills" : Str), ("words" : Str)]
def T_orders_many (g_ways_on : FA) : TSp :=
  (pRet (pVal (pOp fIx (pOp fIx (pFrz (pCallA 3 g_ways_on (pCons (pVar 0) (pCons (pVar 1) (pCons (pVar 2) pNil))))) (pC (.int 0))) (pC (.int 0)))))
end Pl
namespace Pl
open PySem PySem.Spec PyProof.Rows L2
abbrev N__law_lists : List Str := [("_law_thing" : Str), ("_law_one" : Str)]
def T__law_lists (g__law_lists : FA) : TSp :=
  (pRet (pVal (pIf (pTest (pIsi2 D.isLst D.isTup (pVar 0))) (pLc (jSeq (pVar 0)) (hName 1) pYes (pFrz (pCallA 1 g__law_lists (pCons (pVar 1) pNil))) [1]) (pVar 0))))
end Pl
namespace Pl
open PySem PySem.Spec PyProof.Rows L2
section
variable [TJ]
theorem xb_value (c : Str) (h : c ∈ (["Clash", "Against", "Unlike", "Astray", "BadText", "BadRow"] : List Str)) : xb c = .v := if_pos h
theorem xb_no : ∀ c ∈ (["NoPost", "NoOrder", "NoCore", "NoDeed"] : List Str), c ∉ (["Clash", "Against", "Unlike", "Astray", "BadText", "BadRow"] : List Str) ∧ c ≠ "TooMany" := by decide +kernel
theorem xb_lookup (c : Str) (h : c ∈ (["NoPost", "NoOrder", "NoCore", "NoDeed"] : List Str)) : xb c = .l := by
  unfold xb
  rw [if_neg (xb_no c h).1, if_neg (xb_no c h).2]
def inS (st : Stmt) (j : Nat) : Stmt := match st with
  | .ClassDef _ _ _ body _ _ _ _ _ _ _ => body.getD j (.Pass ⟨0, 0, 0, 0⟩)
  | _ => .Pass ⟨0, 0, 0, 0⟩
abbrev xtl (c : Str) : List Value := (xb c).tl.map Value.type
structure XCl (K : PySem.W.Frag) (mg : Str → Option Value) (c : Str) (C : Addr) : Prop where
  cls : ∃ q N bs sn sub ab col dd k0 k1 k2 k3 k5, K.lookup C = some (excClassObj c q C N bs (xtl c) true sn sub ab col dd k0 k1 k2 k3 k5 (xb c).new)
  sa : PySem.W.findIn K (.ref C) "__setattr__" = some (some (.builtin "object.__setattr__"))
  exC : PySem.W.subIn K (.ref C) (.type "BaseException") = some true
  tyC : PySem.W.typeIn K (.ref C) = some (.type "type")
  kC : PySem.W.keepIn K (.ref C) = true
  ask : AskX K C
  ns : PySem.W.nsIn K mainGlobals c = some (some (.ref C))
  fno : PySem.W.findIn K (.ref C) (xfield c) = some none
  gm : mg c = some (.ref C)
section
variable {K : PySem.W.Frag} {mg : Str → Option Value} {c c2 : Str} {C C2 : Addr}
theorem XCl.own (T : XCl K mg c C) : OwnX K C (xb c).new (xtl c) := by
  obtain ⟨q, N, bs, sn, sub, ab, col, dd, k0, k1, k2, k3, k5, h⟩ := T.cls
  exact ⟨⟨c, q, N, bs, sn, sub, ab, col, dd, k0, k1, k2, k3, k5, h⟩, T.sa, T.exC, T.tyC, T.kC⟩
theorem XCl.same (T : XCl K mg c C) (h : PySem.W.nsIn K mainGlobals c = some (some (.ref C2))) : C2 = C := by
  rw [T.ns] at h
  cases h; rfl
theorem XCl.ne (T : XCl K mg c C) (T2 : XCl K mg c2 C2) (h : c ≠ c2) : C ≠ C2 := fun z => by
  obtain ⟨q, N, bs, sn, sub, ab, col, dd, k0, k1, k2, k3, k5, e⟩ := T.cls
  obtain ⟨q', N', bs', sn', sub', ab', col', dd', j0, j1, j2, j3, j5, e'⟩ := T2.cls
  subst z
  rw [e] at e'
  have z := Option.some.inj e'
  unfold excClassObj at z
  injection z with _ _ z _
  injection z with z
  injection z with z
  exact h z
theorem xtl_obj (c : Str) : (xtl c).contains (.type "object") = true := by
  unfold xtl
  cases xb c <;> decide +kernel
def isaX (c n : Str) : Bool := c == n || (xb c).tl.any fun s => Str.ofString s == n
theorem XCl.kit (T : XCl K mg c C) (T2 : XCl K mg c2 C2) (hb : ∀ b : XB, (b.tl.any fun s => Str.ofString s == c2) = false) : PySem.W.kitOne K (.ref C) (.ref C2) = some (isaX c c2) := by
  have e : isaX c c2 = (c == c2) := by unfold isaX; rw [hb, Bool.or_false]
  rw [e]
  unfold PySem.W.kitOne
  by_cases h : c = c2
  · subst h
    obtain rfl := T.same T2.ns
    rw [if_pos (by simp)]; simp
  · have ne : C ≠ C2 := T.ne T2 h
    have e1 : (Value.ref C == Value.ref C2) = false := by
      cases q : (Value.ref C == Value.ref C2) with
      | false => rfl
      | true => exact absurd (Value.ref.inj (beq_iff_eq.mp q)) ne
    have e2 : (c == c2) = false := by simpa using h
    rw [if_neg (by rw [e1]; decide), e2]
    obtain ⟨cd, h1, _⟩ := T2.own.cd
    show (if ((PySem.W.clsIn K C2).isSome && PySem.W.typeIn K (.ref C2) == some (.type "type")) = true then PySem.W.subIn K (.ref C) (.ref C2) else none) = some false
    rw [h1, T2.tyC, if_pos (by rfl)]
    show PySem.W.mroIn K C (.ref C2) = some false
    rw [T.own.mro, e1, Bool.false_or]
    unfold xtl
    cases xb c <;> rfl
theorem XCl.kitB (T : XCl K mg c C) {n : String} (hc : c ≠ Str.ofString n) (hm : PySem.W.kitMeta n = true) (hb : ∀ b : XB, (b.tl.map Value.type).contains (.type n) = b.tl.any fun s => Str.ofString s == Str.ofString n) : PySem.W.kitOne K (.ref C) (.type n) = some (isaX c (Str.ofString n)) := by
  have e2 : (c == Str.ofString n) = false := by simpa using hc
  have e : isaX c (Str.ofString n) = ((xb c).tl.any fun s => Str.ofString s == Str.ofString n) := by unfold isaX; rw [e2, Bool.false_or]
  rw [e]
  unfold PySem.W.kitOne
  rw [if_neg (by rw [show (Value.ref C == Value.type n) = false from rfl]; decide)]
  show (if PySem.W.kitMeta n = true then PySem.W.subIn K (.ref C) (.type n) else none) = _
  rw [if_pos hm]
  show PySem.W.mroIn K C (.type n) = _
  rw [T.own.mro, ← hb]
  show some (false || _) = _
  rw [Bool.false_or]
theorem XCl.exm (T : XCl K mg c C) (T2 : XCl K mg c2 C2) (hb : ∀ b : XB, (b.tl.any fun s => Str.ofString s == c2) = false) : PySem.W.exmOne K (.ref C) (.ref C2) = some (c == c2) := by
  unfold PySem.W.exmOne
  rw [T2.exC, if_pos (by rfl)]
  obtain ⟨cd, h1, _⟩ := T2.own.cd
  show (if ((PySem.W.clsIn K C2).isSome && PySem.W.typeIn K (.ref C2) == some (.type "type")) = true then PySem.W.subIn K (.ref C) (.ref C2) else none) = _
  rw [h1, T2.tyC, if_pos (by rfl)]
  show PySem.W.mroIn K C (.ref C2) = _
  rw [T.own.mro]
  have z : (xtl c).contains (.ref C2) = false := by unfold xtl; cases xb c <;> rfl
  rw [z, Bool.or_false]
  by_cases h : c = c2
  · subst h
    obtain rfl := T.same T2.ns
    simp
  · have e2 : (c == c2) = false := by simpa using h
    rw [e2]
    cases q : (Value.ref C == Value.ref C2) with
    | false => rfl
    | true => exact absurd (Value.ref.inj (beq_iff_eq.mp q)) (T.ne T2 h)
end
def XCs (K : PySem.W.Frag) (mg : Str → Option Value) (cs : List Str) : Prop := ∀ c ∈ cs, ∃ C, XCl K mg c C
theorem xcs_nil {K : PySem.W.Frag} {mg : Str → Option Value} : XCs K mg [] := fun _ h => nomatch h
theorem xcs_cons {K : PySem.W.Frag} {mg : Str → Option Value} {c : Str} {C : Addr} {cs : List Str} (h : XCl K mg c C) (t : XCs K mg cs) : XCs K mg (c :: cs) := fun x hx => by
  rcases List.mem_cons.mp hx with rfl | hx
  · exact ⟨C, h⟩
  · exact t x hx
theorem exmAny_of {K : PySem.W.Frag} {cls : Value} : ∀ {us : List Value} {bs : List Bool}, us.length = bs.length → (∀ (i : Nat) u b, us[i]? = some u → bs[i]? = some b → PySem.W.exmOne K cls u = some b) → PySem.W.exmAny K cls us = some (bs.any id)
  | [], [], _, _ => rfl
  | u :: us, b :: bs, hl, h => by
    have h0 := h 0 u b rfl rfl
    have ih := exmAny_of (us := us) (bs := bs) (by simpa using hl) fun i v c e1 e2 => h (i + 1) v c e1 e2
    show (match PySem.W.exmOne K cls u, PySem.W.exmAny K cls us with | some b, some d => some (b || d) | _, _ => none) = _
    rw [h0, ih]
    rfl
section
variable {X : Cx} {c1 c2 c3 c4 : Str} {C1 C2 C3 C4 C : Addr} {p1 p2 p3 p4 tp : Pos} {kk : Nat}
abbrev HitOk (X : Cx) (cs : List Str) (tt : Expr) : Prop := ∀ C, (∃ c ∈ cs, PySem.W.nsIn X.K mainGlobals c = some (some (.ref C))) → Hits X tt (.ref C)
abbrev noB (n : Str) : Prop := ∀ b : XB, (b.tl.any fun s => Str.ofString s == n) = false
theorem named_of (T : XCl X.K X.mg c1 C1) (hg : Gl X c1) (hd : (c1 == ("__debug__" : Str)) = false) : Named X c1 C1 := ⟨hg, hd, T.gm⟩
theorem hit3 (T1 : XCl X.K X.mg c1 C1) (T2 : XCl X.K X.mg c2 C2) (T3 : XCl X.K X.mg c3 C3) (g1 : Gl X c1) (g2 : Gl X c2) (g3 : Gl X c3) (n1 : noB c1 := by intro b; cases b <;> decide +kernel) (n2 : noB c2 := by intro b; cases b <;> decide +kernel) (n3 : noB c3 := by intro b; cases b <;> decide +kernel)
    (d1 : (c1 == ("__debug__" : Str)) = false := by decide) (d2 : (c2 == ("__debug__" : Str)) = false := by decide) (d3 : (c3 == ("__debug__" : Str)) = false := by decide) : HitOk X [c1, c2, c3] (.Tuple [.Name c1 p1, .Name c2 p2, .Name c3 p3] kk tp) := fun C ⟨c, hc, e⟩ => by
  have key : ∀ (T : XCl X.K X.mg c C), c ∈ [c1, c2, c3] → PySem.W.exmAny X.K (.ref C) [.ref C1, .ref C2, .ref C3] = some true := fun T hc => by
    rw [exmAny_of (bs := [c == c1, c == c2, c == c3]) rfl fun i u b e1 e2 => by
      match i, e1, e2 with
      | 0, e1, e2 => cases e1; cases e2; exact T.exm T1 n1
      | 1, e1, e2 => cases e1; cases e2; exact T.exm T2 n2
      | 2, e1, e2 => cases e1; cases e2; exact T.exm T3 n3]
    simp only [List.mem_cons, List.not_mem_nil, or_false] at hc
    rcases hc with rfl | rfl | rfl <;> simp
  simp only [List.mem_cons, List.not_mem_nil, or_false] at hc
  refine hits3 (named_of T1 g1 d1) (named_of T2 g2 d2) (named_of T3 g3 d3) ?_
  rcases hc with rfl | rfl | rfl
  · obtain rfl := T1.same e; exact key T1 (by simp)
  · obtain rfl := T2.same e; exact key T2 (by simp)
  · obtain rfl := T3.same e; exact key T3 (by simp)
end
structure ItX (X : Cx) (cs : List Str) (n : Str) (v : V) : Prop where
  ex : ∃ u, ClsV v u ∧ ∀ c ∈ cs, ∀ C, XCl X.K X.mg c C → PySem.W.kitOne X.K (.ref C) u = some (isaX c n)
  pe : ∀ pos, PE X (.Name n pos) (tC v)
section
variable {X : Cx} {cs : List Str}
theorem itx_own {n : Str} {C2 : Addr} (T2 : XCl X.K X.mg n C2) (hg : Gl X n) (hn : noB n := by intro b; cases b <;> decide +kernel) (hd : (n == ("__debug__" : Str)) = false := by decide) : ItX X cs n (.ref C2) :=
  ⟨⟨.ref C2, .own C2, fun c _ C T => T.kit T2 hn⟩, fun pos => pe_glob hg T2.gm rfl hd⟩
theorem itx_blt {n : String} (hg : Gl X (Str.ofString n)) (hm : X.mg (Str.ofString n) = none) (hcs : ∀ c ∈ cs, c ≠ Str.ofString n := by decide) (hk : PySem.W.kitMeta n = true := by decide +kernel)
    (hb : ∀ b : XB, (b.tl.map Value.type).contains (.type n) = b.tl.any (fun s => Str.ofString s == Str.ofString n) := by intro b; cases b <;> decide +kernel) (hv : bootBuiltins (Str.ofString n) = some (.type n) := by decide +kernel)
    (hnn : Str.ofString n ≠ "__name__" := by decide) (hd : (Str.ofString n == ("__debug__" : Str)) = false := by decide) : ItX X cs (Str.ofString n) (.ty n) :=
  ⟨⟨.type n, .ty n, fun c hc C T => T.kitB (hcs c hc) hk hb⟩, fun pos => pe_bltn hg hm hv rfl hnn hd⟩
def isXw (cs ns : List Str) (d : D) (k : Bool → Prop) : Prop := match d with
  | .exc c _ => c ∈ cs ∧ k (ns.any (isaX c))
  | _ => False
def pIsX (cs ns : List Str) (Te : TEp) : TEp := fun ρ Q => Te ρ fun d ρ1 => isXw cs ns d fun b => Q (.bl b) ρ1
variable {e : Expr} {te : TE} {Te : TEp} {pos fp : Pos} {n1 n2 n3 : Str} {v1 v2 v3 : V} {q1 q2 q3 tp : Pos} {kk : Nat}
theorem isX_look {K : PySem.W.Frag} {F H : Hp} {v : V} {d : D} {cs ns : List Str} {k : Bool → Prop} (r : Rep K F v d) (h : isXw cs ns d k) : ∃ (a C dd : Addr) (w : V) (c : Str), v = .ref a ∧ F a = some (exk a C dd) ∧ F dd = some (.xd [(xfield c, w)]) ∧ PySem.W.nsIn K mainGlobals c = some (some (.ref C)) ∧ c ∈ cs ∧ k (ns.any (isaX c)) := by
  cases r with
  | exc h1 h2 h3 h4 => exact ⟨_, _, _, _, _, rfl, h2, h3, h1, h.1, h.2⟩
  | _ => exact h.elim
theorem ppe_isX (Zc : XCs X.K X.mg cs) (I1 : ItX X cs n1 v1) (hg : Gl X "isinstance") (hm : X.mg "isinstance" = none) (he : PPE X e te Te)
    (hs : starEach [e, .Name n1 q1] X.env = (false, eval e X.env) :: starEach [.Name n1 q1] X.env := by rfl) (hs2 : starEach [.Name n1 q1] X.env = (false, eval (.Name n1 q1) X.env) :: starEach [] X.env := by rfl) (hpl : (backTo pos (starEach [.Name n1 q1] X.env)).any (·.1) = false := by rfl) :
    PPE X (.Call (.Name "isinstance" fp) [e, .Name n1 q1] [] pos) (tCB (rIsX X.K) (tCons te (tCons (tC v1) tNil))) (pIsX cs [n1] Te) :=
  ⟨pe_callB call_isX hg hm (by decide +kernel) (pa_cons he.pe (pa_cons (I1.pe q1) pa_nil hs2) hs) (by decide) (by decide) hs hpl, fun G F H σ ρ Q R S hT k =>
    he.snd G F H σ ρ _ _ S hT fun v d F1 H1 ρ1 u1 S1 r1 h1 => by
      obtain ⟨a, C, dd, w, c, rfl, e1, e2, e3, hc, q⟩ := isX_look (H := H1) r1 h1
      obtain ⟨C', T⟩ := Zc c hc
      obtain rfl := T.same e3
      obtain ⟨u, cv, hk⟩ := I1.ex
      have hk := hk c hc C T
      refine ⟨a, C, dd, _, _, _, v1, u, _, rfl, S1.hF _ _ e1, S1.hF _ _ e2, T.own, xtl_obj c, T.ask, cv, hk, k _ _ F1 H1 ρ1 u1 S1 (.bl _) ?_⟩
      have q' := q
      simp only [List.any_cons, List.any_nil, Bool.or_false] at q'
      exact q'⟩
theorem ppe_isX2 (Zc : XCs X.K X.mg cs) (I1 : ItX X cs n1 v1) (I2 : ItX X cs n2 v2) (hg : Gl X "isinstance") (hm : X.mg "isinstance" = none) (he : PPE X e te Te)
    (hs : starEach [e, .Tuple [.Name n1 q1, .Name n2 q2] kk tp] X.env = (false, eval e X.env) :: starEach [.Tuple [.Name n1 q1, .Name n2 q2] kk tp] X.env := by rfl) (hs2 : starEach [.Tuple [.Name n1 q1, .Name n2 q2] kk tp] X.env = (false, eval (.Tuple [.Name n1 q1, .Name n2 q2] kk tp) X.env) :: starEach [] X.env := by rfl)
    (hs3 : starEach [.Name n1 q1, .Name n2 q2] X.env = (false, eval (.Name n1 q1) X.env) :: starEach [.Name n2 q2] X.env := by rfl) (hs4 : starEach [.Name n2 q2] X.env = (false, eval (.Name n2 q2) X.env) :: starEach [] X.env := by rfl)
    (hpl : (backTo pos (starEach [.Tuple [.Name n1 q1, .Name n2 q2] kk tp] X.env)).any (·.1) = false := by rfl) :
    PPE X (.Call (.Name "isinstance" fp) [e, .Tuple [.Name n1 q1, .Name n2 q2] kk tp] [] pos) (tCB (rIsXT X.K) (tCons te (tCons (tTup (tCons (tC v1) (tCons (tC v2) tNil))) tNil))) (pIsX cs [n1, n2] Te) :=
  ⟨pe_callB call_isXT hg hm (by decide +kernel) (pa_cons he.pe (pa_cons (pe_tup (pa_cons (I1.pe q1) (pa_cons (I2.pe q2) pa_nil hs4) hs3)) pa_nil hs2) hs) (by decide) (by decide) hs hpl, fun G F H σ ρ Q R S hT k =>
    he.snd G F H σ ρ _ _ S hT fun v d F1 H1 ρ1 u1 S1 r1 h1 => by
      obtain ⟨a, C, dd, w, c, rfl, e1, e2, e3, hc, q⟩ := isX_look (H := H1) r1 h1
      obtain ⟨C', T⟩ := Zc c hc
      obtain rfl := T.same e3
      obtain ⟨u, cv, hk⟩ := I1.ex
      obtain ⟨u2, cv2, hk2⟩ := I2.ex
      refine ⟨by show (2 : Nat) ≤ sizeLine; decide, fun p hp => ?_⟩
      have sm := same_new (o := HO.tup [v1, v2]) hp
      refine ⟨a, C, dd, p, _, _, _, [v1, v2], [u, u2], _, rfl, sm _ _ (S1.hF _ _ e1), sm _ _ (S1.hF _ _ e2), T.own, xtl_obj c, T.ask, upd_same, .cons cv (.cons cv2 .nil), ?_, k _ _ F1 _ ρ1 u1 (S1.more hp) (.bl _) q⟩
      exact kitAny_cons (hk c hc C T) (fun h => kitAny_cons (hk2 c hc C T) (fun h2 => by rw [kitAny_nil]; simp [List.any, h, h2]) fun h2 => by simp [List.any, h2]) fun h => by simp [List.any, h]⟩
def pXf (cs : List Str) (f : Str) (Te : TEp) : TEp := fun ρ Q => Te ρ fun d ρ1 => match d with
  | .exc c y => c ∈ cs ∧ xfield c = f ∧ Q y ρ1
  | _ => False
theorem ppe_xf {f : Str} (Zc : XCs X.K X.mg cs) (he : PPE X e te Te) (hb : attributeBase e f X.env (eval e X.env) = eval e X.env := by rfl) : PPE X (.Attribute e f pos) (tXfk X.K f te) (pXf cs f Te) :=
  ⟨pe_xfk he.pe hb, fun G F H σ ρ Q R S hT k => he.snd G F H σ ρ _ _ S hT fun v d F1 H1 ρ1 u1 S1 r1 h1 => by
    cases r1 with
    | @exc a C dd w c y e3 e1 e2 rw' =>
      obtain ⟨hc, hf, q⟩ := h1
      obtain ⟨C', T⟩ := Zc c hc
      obtain rfl := T.same e3
      refine ⟨a, C, dd, _, _, _, w, rfl, S1.hF _ _ e1, S1.hF _ _ e2, T.own, T.ask, by rw [← hf]; exact T.fno, by simp [List.lookup, hf], k w y F1 H1 ρ1 u1 S1 rw' q⟩
    | _ => exact h1.elim⟩
end
end
def RdI (K : PySem.W.Frag) (C : Addr) (ok : D → Prop) (te : TE) : Prop := ∀ (F H : Hp) (a : Addr) (v : V) (d : D) (Q : VK), Same F H → F a = none → H a = some (exo a C none) → Rep K F v d → ok d →
  (∀ v' F' H', Up H F F' → Same F' H' → Same H H' → Rep K F' v' d → Q v' H') → te [some (.ref a), some v] H Q
theorem rdi_var {K : PySem.W.Frag} {C : Addr} {ok : D → Prop} : RdI K C ok (tVar 1) := fun F H a v d Q hF _ _ r _ k => ⟨v, rfl, k v F H (.refl _ _) hF (.refl H) r⟩
section
variable {P : Program} {w : World} {K : PySem.W.Frag} {mg : Str → Option Value} {base : Heap} {c : Str} {C : Addr} {x qual m p : Str} {st : Stmt} {f : Addr} {fd : FuncData} {k : Nat} {ok : D → Prop}
theorem ok_init (Fn : Fun K x qual st f fd) (S : FnScope ["self", p] ["self", p] (defScope st)) (T : XCl K mg c C)
    (hb : ∀ (cdv : Value) (A : Around) (outer : List Env) (s : Shared) (H : Hp) (E : XK), Room k (A.deeper (envOfC qual (defScope st) s.heap.objs.size f cdv)) → ∃ te, RdI K C ok te ∧
      PSs (cxOf CX0 P w K mg base ["self", p] qual (defScope st) f cdv A outer s H E).nox (defBody st) (tSeq (tDrop (tOyI K (xb c).new (xtl c) (tCons (tVar 0) (tCons (tC (.str m)) tNil)))) (tOyS K (xb c).new (xtl c) (xfield c) (tVar 0) te))) :
    FnOk P w K mg base CX0 (k + 1) f fd ["self", p] (spI K c C ok) := by
  refine Fn.ok S (fun vs H Q E h => ?_) (fun cdv A outer s H vs Q E hr h => ?_)
  · obtain ⟨F, a, v, d, rfl, _⟩ := h
    rfl
  · obtain ⟨te, hte, ht⟩ := hb cdv A outer s H E hr
    refine ⟨_, ht, ?_⟩
    obtain ⟨F, a, v, d, rfl, ea, fa, hF, r, ho, k'⟩ := h
    refine ⟨.ref a, rfl, a, C, [.str m], rfl, by show (1 : Nat) ≤ 1000; decide, T.own, ea, ?_⟩
    refine hte F H a v d _ hF fa ea r ho fun v' F' H' u sF sH r' => ?_
    refine ⟨.ref a, rfl, a, C, rfl, T.own, T.fno, sH _ _ ea, fun dx nd ne => ?_⟩
    have Hd : H dx = none := sH.free nd
    refine k' dx v' F' _ upd_same (by rw [upd_ne ne, upd_same]) Hd ne u (sF.free nd) (fun b o nb q => ?_) (fun b o nb q => ?_) r'
    · rw [upd_ne nb, upd_ne (ne_of_none (sF _ _ q) nd)]; exact sF _ _ q
    · rw [upd_ne nb, upd_ne (ne_of_none (sH _ _ q) nd)]; exact sH _ _ q
end
end Pl
namespace Pl
open PySem PySem.Spec PyProof.Rows L2
def TX_handed (ok_NoPost : D → Prop) : TXs :=
  (xSeq (xIfS (pNot (pTest (pChain fLe fLt (pC (.int 0)) (pVar 1) (pLenO 0))))
    (xRaise "NoPost" ok_NoPost (pCons (pVar 1) pNil))
    xNext)
    (xOk (pRet (pVal (pCB fTup (pCons (pLc (jE (pCons (pVar 0) pNil)) (hTup 2 (hCons (hName 3) (hCons (hName 4) hNil))) pYes (pIf (pTest (pOp fEq (pVar 3) (pVar 1))) (pOp fAdd (pVar 4) (pVar 2)) (pVar 4)) [3, 4]) pNil))))))
end Pl
namespace Pl
open PySem PySem.Spec PyProof.Rows L2
abbrev N_is_hand : List Str := [("entry" : Str)]
def T_is_hand : TSp :=
  (pRet (pVal (pOp fEq (pIxO 0 (pC (.int 0))) (pC (.str "hand")))))
abbrev N_done : List Str := [("dune" : Str), ("entries" : Str), ("now" : Str), ("entry" : Str)]
def T_done (g_handed : FA) (g_blown : FA) (g_is_hand : FA) : TSp :=
  (pSeq (pSet 2 (pVal (pCB fTup (pCons (pVar 0) pNil))))
    (pSeq (pFor (jSeq (pVar 1)) (hName 3)
    (pSet 2 (pVal (pIf (pTest (pFrz (pCallA 1 g_is_hand (pCons (pVar 3) pNil)))) (pFrz (pCallA 3 g_handed (pCons (pVar 2) (pCons (pIxO 3 (pC (.int 1))) (pCons (pIxO 3 (pC (.int 2))) pNil))))) (pFrz (pCallA 2 g_blown (pCons (pVar 2) (pCons (pVar 3) pNil))))))))
    (pRet (pMove 2))))
abbrev N_entries_with : List Str := [("entries" : Str), ("words" : Str), ("entry" : Str)]
def T_entries_with : TSp :=
  (pRet (pLcO (jSeq (pVar 0)) (hName 2) (pTest (pOp fInT (pIxO 2 (pC (.int 0))) (pVar 1))) (pCB fTup (pCons (pVar 2) pNil)) [2]))
def TX_done (g_handed : FA) (g_blown : FA) (g_is_hand : FA) (gx_handed : FX) : TXs :=
  (xSeq (xOk (pSet 2 (pVal (pCB fTup (pCons (pVar 0) pNil)))))
    (xSeq (xFor (jSeq (pVar 1)) (hName 3)
    (xOr (pSet 2 (pVal (pIf (pTest (pFrz (pCallA 1 g_is_hand (pCons (pVar 3) pNil)))) (pFrz (pCallA 3 g_handed (pCons (pVar 2) (pCons (pIxO 3 (pC (.int 1))) (pCons (pIxO 3 (pC (.int 2))) pNil))))) (pFrz (pCallA 2 g_blown (pCons (pVar 2) (pCons (pVar 3) pNil)))))))
    (xE (xIf1 (pTest (pFrz (pCallA 1 g_is_hand (pCons (pVar 3) pNil)))) (xCall 3 gx_handed (pCons (pVar 2) (pCons (pIxO 3 (pC (.int 1))) (pCons (pIxO 3 (pC (.int 2))) pNil))))))))
    (xOk (pRet (pMove 2)))))
abbrev N_same_hands : List Str := [("cutter" : Str), ("filler" : Str), ("ours" : Str), ("theirs" : Str), ("number" : Str)]
def T_same_hands (g_entries_with : FA) : TSp :=
  (pSeq (pSet 2 (pCallA 2 g_entries_with (pCons (pVar 0) (pCons (pTup (pCons (pC (.str "hand")) pNil)) pNil))))
    (pSeq (pSet 3 (pCallA 2 g_entries_with (pCons (pVar 1) (pCons (pTup (pCons (pC (.str "hand")) pNil)) pNil))))
    (pSeq (pFor (jRng1 (pCons (pCB fMax2 (pCons (pLenO 2) (pCons (pLenO 3) pNil))) pNil)) (hName 4)
    (pIfS (pTest (pOp fNe (pSl (pVar 2) (pPart (pVar 4)) (pPart (pOp fAdd (pVar 4) (pC (.int 1))))) (pSl (pVar 3) (pPart (pVar 4)) (pPart (pOp fAdd (pVar 4) (pC (.int 1)))))))
    pNever
    pNext))
    (pRet (pMove 2)))))
abbrev N_all_of_one_first : List Str := [("parts" : Str), ("word" : Str), ("entries" : Str), ("cuts" : Str), ("fills" : Str), ("hand" : Str), ("early" : Str), ("late" : Str)]
def T_all_of_one_first (g_almanac_of : FA) : TSp :=
  (pSeq (pSet 2 (pLstO pNil))
    (pSeq (pFor (jSeq (pVar 0)) (hTup 3 (hCons (hName 3) (hCons (hName 4) (hCons (hName 5) hNil))))
    (pSeq (pPar 6 7 (pCons (pOp fMulS (pC (.str "c")) (pLenO 3)) (pCons (pOp fMulS (pC (.str "f")) (pLenO 4)) pNil)))
    (pSeq (pExtend 2 (pFrz (pCallA 3 g_almanac_of (pCons (pVar 3) (pCons (pVar 4) (pCons (pIf (pTest (pOp fEq (pVar 1) (pC (.str "cut")))) (pOp fAdd (pVar 6) (pVar 7)) (pOp fAdd (pVar 7) (pVar 6))) pNil))))))
    (pIfS (pTest (pOp fNotN (pVar 5) (pC .non)))
    (pAppend 2 (pVar 5))
    pNext))))
    (pRet (pMove 2))))
end Pl
namespace Pl
open PySem PySem.Spec PyProof.Rows L2
def All2 (Pd : D → Int → Prop) : List D → List Int → Prop
  | [], [] => True
  | d :: ds, y :: ys => Pd d y ∧ All2 Pd ds ys
  | _, _ => False
theorem All2.length {Pd : D → Int → Prop} : ∀ {ds : List D} {ys : List Int}, All2 Pd ds ys → ys.length = ds.length
  | [], [], _ => rfl
  | _ :: ds, _ :: ys, h => by simp [All2.length h.2]
  | [], _ :: _, h => h.elim
  | _ :: _, [], h => h.elim
theorem All2.mem {Pd : D → Int → Prop} : ∀ {ds : List D} {ys : List Int} {y : Int}, All2 Pd ds ys → y ∈ ys → ∃ d ∈ ds, Pd d y
  | [], [], _, _, h => by simp at h
  | d :: ds, z :: ys, y, h, hy => by
    rcases List.mem_cons.mp hy with e | hy
    · subst e; exact ⟨d, by simp, h.1⟩
    · obtain ⟨e, he, p⟩ := All2.mem h.2 hy
      exact ⟨e, by simp [he], p⟩
  | [], _ :: _, _, h, _ => h.elim
  | _ :: _, [], _, h, _ => h.elim
theorem Bx.le {n m : Nat} {xs : List D} (h : Bx n xs) (hm : n ≤ m) : Bx m xs := h.mono hm
end Pl
namespace Pl
open PySem PySem.Spec PyProof.Rows L2
def handL (v : Int) : Nat → List Int → List Int
  | _, [] => []
  | 0, x :: r => (x + v) :: r
  | q + 1, x :: r => x :: handL v q r
theorem handL_len (v : Int) : ∀ (q : Nat) (l : List Int), (handL v q l).length = l.length
  | _, [] => by cases ‹Nat› <;> rfl
  | 0, _ :: _ => rfl
  | q + 1, x :: r => by simp [handL, handL_len v q r]
theorem lcW_enumI {vs : List Nat} {g : TGp} {te : TEp} {Q : List D → Ro → Prop} {h : Nat → Int → D} {ρ : Ro} : ∀ (l : List Int) (k : Nat) (acc : List D), (∀ i x, l[i]? = some x → ElemOk vs g te ρ (.tup [.int ((k + i : Nat) : Int), .int x]) (h (k + i) x)) → acc.length + l.length ≤ 1000 → Q (acc ++ (enumFrom h k l)) ρ → lcW vs g pYes te Q (enumD k (dI l)) acc ρ
  | [], k, acc, _, _, hQ => by
    have hQ : Q (acc ++ []) ρ := hQ
    rw [List.append_nil] at hQ
    exact hQ
  | x :: l, k, acc, hs, hl, hQ => by
    have hl' : acc.length + (l.length + 1) ≤ 1000 := hl
    refine hs 0 x rfl _ fun ρ4 e => ⟨small1000 (by omega), ?_⟩
    rw [e]
    refine lcW_enumI (h := h) l (k + 1) _ (fun i y hy => ?_) (by rw [List.length_append]; show acc.length + 1 + l.length ≤ 1000; omega) ?_
    · have := hs (i + 1) y (by simpa using hy)
      rw [show k + (i + 1) = k + 1 + i by omega] at this
      exact this
    · rw [List.append_assoc]
      exact hQ
theorem enum_hand (v : Int) : ∀ (l : List Int) (k q : Nat), enumFrom (fun j x => D.int (if ((j : Nat) : Int) = ((k + q : Nat) : Int) then x + v else x)) k l = dI (handL v q l)
  | [], _, q => by cases q <;> rfl
  | x :: l, k, 0 => by
    show D.int (if ((k : Nat) : Int) = ((k + 0 : Nat) : Int) then x + v else x) :: enumFrom _ (k + 1) l = D.int (x + v) :: dI l
    rw [if_pos (by omega)]
    congr 1
    have : ∀ (l : List Int) (m : Nat), k < m → enumFrom (fun (j : Nat) x => D.int (if ((j : Nat) : Int) = ((k + 0 : Nat) : Int) then x + v else x)) m l = dI l := by
      intro l
      induction l with
      | nil => intro m _; rfl
      | cons y l ih =>
        intro m hm
        show D.int (if ((m : Nat) : Int) = ((k + 0 : Nat) : Int) then y + v else y) :: enumFrom _ (m + 1) l = D.int y :: dI l
        rw [if_neg (by omega), ih (m + 1) (by omega)]
    exact this l (k + 1) (by omega)
  | x :: l, k, q + 1 => by
    show D.int (if ((k : Nat) : Int) = ((k + (q + 1) : Nat) : Int) then x + v else x) :: enumFrom _ (k + 1) l = D.int x :: dI (handL v q l)
    rw [if_neg (by omega), ← enum_hand v l (k + 1) q, show k + (q + 1) = k + 1 + q by omega]
def g_handed : FA := fun ds C => ∃ d ns q v, ds = [d, .int ((q : Nat) : Int), .int v] ∧ Sq d ns ∧ q < ns.length ∧ ns.length ≤ 1000 ∧ C (.val (tD (handL v q ns)))
theorem rd_handed : ∀ ds C, ds.length = 3 → g_handed ds C → T_handed { nx := fun _ => C (.val .non), rt := fun c _ => C c } (startA N_handed ds) := by
  rintro ds C - ⟨d, ns, q, v, rfl, hd, hq, hl, hC⟩
  have key : lcW [3, 4] (hTup 2 (hCons (hName 3) (hCons (hName 4) hNil))) pYes (pIf (pTest (pOp fEq (pVar 3) (pVar 1))) (pOp fAdd (pVar 4) (pVar 2)) (pVar 4)) (fun acc ρ2 => C (.val (.tup acc))) (enumD 0 (dI ns)) [] [some (.val d), some (.val (.int (q : Int))), some (.val (.int v)), none, none] := by
    refine lcW_enumI (h := fun j x => .int (if ((j : Nat) : Int) = ((0 + q : Nat) : Int) then x + v else x)) ns 0 [] (fun i x hx K hK => ?_) (by simpa using hl) ?_
    · refine ⟨rfl, rfl, sh_int _, sh_int _, ?_⟩
      have e : ((D.int ((0 + i : Nat) : Int)).eqv (.int (q : Int))) = decide (((0 + i : Nat) : Int) = ((0 + q : Nat) : Int)) := by rw [eqv_int, Nat.zero_add q]; rfl
      refine ifB (fun h => ?_) (fun h => ?_)
      · rw [e] at h; have := hK; rw [if_pos (dT h)] at this; exact this _ rfl
      · rw [e] at h; have := hK; rw [if_neg (dF h)] at this; exact this _ rfl
    · rw [List.nil_append, enum_hand]; exact hC
  have b : ((q : Int) < ((dI ns).length : Nat)) := by rw [ints_len]; omega
  rcases hd with rfl | rfl
  · exact ifF (by rw [decide_eq_true b]; rfl) key
  · exact ifF (by rw [decide_eq_true b]; rfl) key
end Pl
namespace Pl
open PySem PySem.Spec PyProof.Rows L2
abbrev EA (C : Cell → Prop) : PEnds := { nx := fun _ => C (.val .non), rt := fun c _ => C c }
theorem eqv_word (a b : Bool) : (D.str (wordS a)).eqv (.str (wordS b)) = (a == b) := by cases a <;> cases b <;> decide +kernel
end Pl
namespace Pl
open PySem PySem.Spec PyProof.Rows L2
abbrev EB (a : Addr) (C : Cell → List D → Prop) : PEnds := { nx := fun ρ => ∃ ys, ρ[0]? = some (some (.own a ys)) ∧ C (.val .non) ys, rt := fun c ρ => ∃ ys, ρ[0]? = some (some (.own a ys)) ∧ C c ys }
end Pl
namespace Pl
open PySem PySem.Spec PyProof.Rows L2
def fs : List Wd → Int → Option Bool
  | [], _ => none
  | w :: ws, t => if w.2 ≤ t then some w.1 else fs ws t
def slL (ws : List Wd) : List Int := ws.map (·.2)
def parts (a b : List Wd) : List Int := (slL (a ++ b)).filter fun s => !(decide (fs a s = fs b s))
end Pl
namespace Pl
open PySem PySem.Spec PyProof.Rows L2
def AmW (a : D) (ws : List Wd) : Prop := ∃ ps : List (D × Wd), (a = .lst (ps.map Prod.fst) ∨ a = .tup (ps.map Prod.fst)) ∧ (∀ p ∈ ps, Wn p.1 p.2.1 p.2.2) ∧ ps.map Prod.snd = ws
theorem Am.w {a : D} {ws : List Wd} (h : Am a ws) : AmW a ws := by
  refine ⟨ws.map fun w => (windD w.1 w.2, w), ?_, fun p hp => ?_, by rw [List.map_map]; exact List.map_id' ws⟩
  · rcases h with rfl | rfl
    · exact .inl (by rw [List.map_map]; rfl)
    · exact .inr (by rw [List.map_map]; rfl)
  · obtain ⟨w, _, rfl⟩ := List.mem_map.mp hp
    exact .inl rfl
theorem AmW.lst (ws : List Wd) : AmW (.lst (windsD ws)) ws := Am.w (.inl rfl)
theorem eqv_wind (w v : Wd) : PyData.eqv (toPy (windD w.1 w.2)) (toPy (windD v.1 v.2)) = decide (w = v) := by
  show ((D.str (wordS w.1)).eqv (.str (wordS v.1)) && ((w.2 == v.2) && true)) = _
  rw [eqv_word]
  obtain ⟨a, s⟩ := w
  obtain ⟨b, t⟩ := v
  by_cases h1 : a = b <;> by_cases h2 : s = t <;> simp [h1, h2]
end Pl
namespace Pl
open PySem PySem.Spec PyProof.Rows L2
abbrev vo (a : Addr) (zs : List D) : Option Cell := some (.own a zs)
end Pl
namespace Pl
open PySem PySem.Spec PyProof.Rows L2
abbrev EX (C : XD → Prop) : XP := fun x _ => C x
abbrev E0 : PEnds := { nx := fun _ => False, rt := fun _ _ => False }
abbrev okAny : D → Prop := fun _ => True
def gx_handed : FX := fun ds C => ∃ d ns q v, ds = [d, .int q, .int v] ∧ Sq d ns ∧ ¬ (0 ≤ q ∧ q < ns.length) ∧ C ⟨"NoPost", .int q⟩
theorem rdx_handed : ∀ ds C, ds.length = 3 → gx_handed ds C → TX_handed okAny E0 (EX C) (startA N_handed ds) := by
  rintro ds C - ⟨d, ns, q, v, rfl, hd, hq, hC⟩
  have e : (D.int q).isInt = true := rfl
  refine ifB (fun h => ?_) (fun h => ?_)
  · have h0 : 0 ≤ q := of_decide_eq_true h
    rcases hd with rfl | rfl
    · refine ifT ?_ ⟨trivial, hC⟩
      show (!decide (q < ((dI ns).length : Nat))) = true
      rw [ints_len, decide_eq_false (by omega)]; rfl
    · refine ifT ?_ ⟨trivial, hC⟩
      show (!decide (q < ((dI ns).length : Nat))) = true
      rw [ints_len, decide_eq_false (by omega)]; rfl
  · exact ifT rfl ⟨trivial, hC⟩
end Pl
namespace Pl
def cT : List Bool → Nat
  | [] => 0
  | true :: o => cT o + 1
  | false :: o => cT o
def cF : List Bool → Nat
  | [] => 0
  | true :: o => cF o
  | false :: o => cF o + 1
theorem cT_append : ∀ (a b : List Bool), cT (a ++ b) = cT a + cT b
  | [], b => by simp [cT]
  | true :: a, b => by show cT (a ++ b) + 1 = cT a + 1 + cT b; rw [cT_append a b]; omega
  | false :: a, b => cT_append a b
theorem cF_append : ∀ (a b : List Bool), cF (a ++ b) = cF a + cF b
  | [], b => by simp [cF]
  | false :: a, b => by show cF (a ++ b) + 1 = cF a + 1 + cF b; rw [cF_append a b]; omega
  | true :: a, b => cF_append a b
theorem cT_cF : ∀ o : List Bool, cT o + cF o = o.length
  | [] => rfl
  | true :: o => by have := cT_cF o; show cT o + 1 + cF o = o.length + 1; omega
  | false :: o => by have := cT_cF o; show cT o + (cF o + 1) = o.length + 1; omega
def almL (cuts fills : List Int) (i j : Nat) : List Bool → List Wd
  | [] => []
  | true :: o => (true, cuts.getD i 0) :: almL cuts fills (i + 1) j o
  | false :: o => (false, fills.getD j 0) :: almL cuts fills i (j + 1) o
theorem almL_len (cuts fills : List Int) : ∀ (o : List Bool) (i j : Nat), (almL cuts fills i j o).length = o.length
  | [], _, _ => rfl
  | true :: o, i, j => by simp [almL, almL_len cuts fills o]
  | false :: o, i, j => by simp [almL, almL_len cuts fills o]
theorem almL_snocT (cuts fills : List Int) : ∀ (o : List Bool) (i j : Nat), almL cuts fills i j (o ++ [true]) = almL cuts fills i j o ++ [(true, cuts.getD (i + cT o) 0)]
  | [], i, j => by simp [almL, cT]
  | true :: o, i, j => by
    show (true, cuts.getD i 0) :: almL cuts fills (i + 1) j (o ++ [true]) = (true, cuts.getD i 0) :: (almL cuts fills (i + 1) j o ++ [(true, cuts.getD (i + (cT o + 1)) 0)])
    rw [almL_snocT cuts fills o, show i + 1 + cT o = i + (cT o + 1) by omega]
  | false :: o, i, j => by
    show (false, fills.getD j 0) :: almL cuts fills i (j + 1) (o ++ [true]) = (false, fills.getD j 0) :: (almL cuts fills i (j + 1) o ++ [(true, cuts.getD (i + cT o) 0)])
    rw [almL_snocT cuts fills o]
theorem almL_snocF (cuts fills : List Int) : ∀ (o : List Bool) (i j : Nat), almL cuts fills i j (o ++ [false]) = almL cuts fills i j o ++ [(false, fills.getD (j + cF o) 0)]
  | [], i, j => by simp [almL, cF]
  | true :: o, i, j => by
    show (true, cuts.getD i 0) :: almL cuts fills (i + 1) j (o ++ [false]) = (true, cuts.getD i 0) :: (almL cuts fills (i + 1) j o ++ [(false, fills.getD (j + cF o) 0)])
    rw [almL_snocF cuts fills o]
  | false :: o, i, j => by
    show (false, fills.getD j 0) :: almL cuts fills i (j + 1) (o ++ [false]) = (false, fills.getD j 0) :: (almL cuts fills i (j + 1) o ++ [(false, fills.getD (j + (cF o + 1)) 0)])
    rw [almL_snocF cuts fills o, show j + 1 + cF o = j + (cF o + 1) by omega]
theorem getD_nonneg {l : List Int} (h : ∀ x ∈ l, 0 ≤ x) (i : Nat) : 0 ≤ l.getD i 0 := by
  rw [List.getD_eq_getElem?_getD]
  cases e : l[i]? with
  | none => simp
  | some x => simp; exact h x (List.mem_of_getElem? e)
theorem almL_nonneg {cuts fills : List Int} (hc : ∀ x ∈ cuts, 0 ≤ x) (hf : ∀ x ∈ fills, 0 ≤ x) : ∀ (o : List Bool) (i j : Nat), ∀ w ∈ almL cuts fills i j o, 0 ≤ w.2
  | [], _, _, w, h => by simp [almL] at h
  | true :: o, i, j, w, h => by
    rcases List.mem_cons.mp h with e | h
    · rw [e]; exact getD_nonneg hc i
    · exact almL_nonneg hc hf o _ _ w h
  | false :: o, i, j, w, h => by
    rcases List.mem_cons.mp h with e | h
    · rw [e]; exact getD_nonneg hf j
    · exact almL_nonneg hc hf o _ _ w h
theorem almL_memT (cuts fills : List Int) : ∀ (o : List Bool) (i j k : Nat), k < cT o → (true, cuts.getD (i + k) 0) ∈ almL cuts fills i j o
  | [], _, _, k, h => by simp [cT] at h
  | true :: o, i, j, 0, _ => by simp [almL]
  | true :: o, i, j, k + 1, h => by
    have := almL_memT cuts fills o (i + 1) j k (by have : k + 1 < cT o + 1 := h; omega)
    rw [show i + 1 + k = i + (k + 1) by omega] at this
    exact List.mem_cons_of_mem _ this
  | false :: o, i, j, k, h => List.mem_cons_of_mem _ (almL_memT cuts fills o i (j + 1) k h)
theorem almL_memF (cuts fills : List Int) : ∀ (o : List Bool) (i j k : Nat), k < cF o → (false, fills.getD (j + k) 0) ∈ almL cuts fills i j o
  | [], _, _, k, h => by simp [cF] at h
  | false :: o, i, j, 0, _ => by simp [almL]
  | false :: o, i, j, k + 1, h => by
    have := almL_memF cuts fills o i (j + 1) k (by have : k + 1 < cF o + 1 := h; omega)
    rw [show j + 1 + k = j + (k + 1) by omega] at this
    exact List.mem_cons_of_mem _ this
  | true :: o, i, j, k, h => List.mem_cons_of_mem _ (almL_memF cuts fills o (i + 1) j k h)
def aheadL (k : Nat) : List Bool → List Nat
  | [] => []
  | true :: o => aheadL (k + 1) o
  | false :: o => k :: aheadL k o
theorem aheadL_len : ∀ (o : List Bool) (k : Nat), (aheadL k o).length = cF o
  | [], _ => rfl
  | true :: o, k => aheadL_len o (k + 1)
  | false :: o, k => by show (aheadL k o).length + 1 = cF o + 1; rw [aheadL_len o k]
theorem aheadL_snocT : ∀ (o : List Bool) (k : Nat), aheadL k (o ++ [true]) = aheadL k o
  | [], _ => rfl
  | true :: o, k => aheadL_snocT o (k + 1)
  | false :: o, k => by show k :: aheadL k (o ++ [true]) = k :: aheadL k o; rw [aheadL_snocT o k]
theorem aheadL_snocF : ∀ (o : List Bool) (k : Nat), aheadL k (o ++ [false]) = aheadL k o ++ [k + cT o]
  | [], _ => by simp [aheadL, cT]
  | true :: o, k => by show aheadL (k + 1) (o ++ [false]) = aheadL (k + 1) o ++ [k + (cT o + 1)]; rw [aheadL_snocF o (k + 1), show k + 1 + cT o = k + (cT o + 1) by omega]
  | false :: o, k => by show k :: aheadL k (o ++ [false]) = k :: (aheadL k o ++ [k + cT o]); rw [aheadL_snocF o k]
theorem aheadL_le : ∀ (o : List Bool) (k : Nat), ∀ x ∈ aheadL k o, k ≤ x ∧ x ≤ k + cT o
  | [], _, x, h => by simp [aheadL] at h
  | true :: o, k, x, h => by
    have := aheadL_le o (k + 1) x h
    show k ≤ x ∧ x ≤ k + (cT o + 1); omega
  | false :: o, k, x, h => by
    rcases List.mem_cons.mp h with e | h
    · subst e; show x ≤ x ∧ x ≤ x + cT o; omega
    · exact aheadL_le o k x h
structure Dom (A B : List Bool) : Prop where
  t : cT B ≤ cT A
  f : cF A ≤ cF B
  le : ∀ (j x y : Nat), (aheadL 0 A)[j]? = some x → (aheadL 0 B)[j]? = some y → y ≤ x
theorem behindL_snoc (l : List Int) (ws : List Wd) (w : Wd) : behindL l (ws ++ [w]) = blW (behindL l ws) w := behindL_append l ws [w]
theorem get_snoc_lt {l : List Nat} {x y : Nat} {j : Nat} (h : l[j]? = some y) : (l ++ [x])[j]? = some y := by
  have hj : j < l.length := by
    rcases Nat.lt_or_ge j l.length with q | q
    · exact q
    · rw [List.getElem?_eq_none q] at h; cases h
  rw [List.getElem?_append_left hj]; exact h
theorem dom_le {cuts fills : List Int} (hc : ∀ x ∈ cuts, 0 ≤ x) (hf : ∀ x ∈ fills, 0 ≤ x) (l : List Int) : ∀ (n : Nat) (A B : List Bool), A.length + B.length ≤ n → Dom A B → Lq (behindL l (almL cuts fills 0 0 A)) (behindL l (almL cuts fills 0 0 B)) := by
  intro n
  induction n with
  | zero =>
    intro A B hn D
    have hA : A = [] := List.length_eq_zero_iff.mp (by omega)
    have hB : B = [] := List.length_eq_zero_iff.mp (by omega)
    subst hA hB
    exact Lq.refl _
  | succ n ih =>
    intro A B hn D
    rcases List.eq_nil_or_concat B with rfl | ⟨B', b, rfl⟩
    · rcases List.eq_nil_or_concat A with rfl | ⟨A', a, rfl⟩
      · exact Lq.refl _
      · rw [List.concat_eq_append] at *
        cases a with
        | false =>
          have := D.f
          rw [cF_append] at this
          simp [cF] at this
        | true =>
          rw [almL_snocT, behindL_snoc]
          have D' : Dom A' [] := ⟨Nat.zero_le _, by have := D.f; rw [cF_append] at this; simpa [cF] using this, fun j x y _ h => by simp [aheadL] at h⟩
          exact (cutTo_le _ _).trans (ih A' [] (by simp at hn ⊢; omega) D')
    · rw [List.concat_eq_append] at *
      cases b with
      | true =>
        rw [almL_snocT, behindL_snoc]
        have h1 := D.t
        rw [cT_append] at h1
        have h1 : cT B' + 1 ≤ cT A := h1
        have D' : Dom A B' := ⟨by omega, by have := D.f; rw [cF_append] at this; simpa [cF] using this, fun j x y hx hy => D.le j x y hx (by rw [aheadL_snocT]; exact hy)⟩
        have hg : Gentle (cuts.getD (0 + cT B') 0) (behindL l (almL cuts fills 0 0 A)) := behindL_gentle (almL_nonneg hc hf A 0 0) _ (almL_memT cuts fills A 0 0 (cT B') (by omega))
        exact cutTo_max hg (ih A B' (by simp at hn; omega) D')
      | false =>
        rcases List.eq_nil_or_concat A with rfl | ⟨A', a, rfl⟩
        · rw [almL_snocF, behindL_snoc]
          have D' : Dom [] B' := ⟨by have := D.t; rw [cT_append] at this; simpa [cT] using this, Nat.zero_le _, fun j x y h _ => by simp [aheadL] at h⟩
          exact (ih [] B' (by simp at hn ⊢; omega) D').trans (fillTo_ge _ _)
        · rw [List.concat_eq_append] at *
          cases a with
          | false =>
            rw [almL_snocF, behindL_snoc]
            have h1 := D.f
            rw [cF_append] at h1
            have h1 : cF A' + 1 ≤ cF (B' ++ [false]) := h1
            have D' : Dom A' (B' ++ [false]) := ⟨by have := D.t; rw [cT_append A'] at this; simpa [cT] using this, by omega, fun j x y hx hy => D.le j x y (by rw [aheadL_snocF]; exact get_snoc_lt hx) hy⟩
            have hg : Gentle (fills.getD (0 + cF A') 0) (behindL l (almL cuts fills 0 0 (B' ++ [false]))) := behindL_gentle (almL_nonneg hc hf _ 0 0) _ (almL_memF cuts fills _ 0 0 (cF A') (by omega))
            exact fillTo_min hg (ih A' (B' ++ [false]) (by simp at hn ⊢; omega) D')
          | true =>
            have ht := D.t
            have hff := D.f
            rw [cT_append, cT_append] at ht
            rw [cF_append, cF_append] at hff
            have ht : cT B' + 0 ≤ cT A' + 1 := ht
            have hff : cF A' + 0 ≤ cF B' + 1 := hff
            by_cases h1 : cF A' ≤ cF B'
            · have D' : Dom (A' ++ [true]) B' := ⟨by rw [cT_append]; show cT B' ≤ cT A' + 1; omega, by rw [cF_append]; show cF A' + 0 ≤ cF B'; omega, fun j x y hx hy => D.le j x y hx (by rw [aheadL_snocF]; exact get_snoc_lt hy)⟩
              rw [almL_snocF, behindL_snoc]
              exact (ih (A' ++ [true]) B' (by simp at hn ⊢; omega) D').trans (fillTo_ge _ _)
            · by_cases h2 : cT B' ≤ cT A'
              · have D' : Dom A' (B' ++ [false]) := ⟨by rw [cT_append]; show cT B' + 0 ≤ cT A'; omega, by rw [cF_append]; show cF A' ≤ cF B' + 1; omega, fun j x y hx hy => D.le j x y (by rw [aheadL_snocT]; exact hx) hy⟩
                rw [almL_snocT, behindL_snoc]
                exact (cutTo_le _ _).trans (ih A' (B' ++ [false]) (by simp at hn ⊢; omega) D')
              · exfalso
                have e : cF A' = cF B' + 1 := by omega
                have hlen := aheadL_len A' 0
                have hx : (aheadL 0 A')[cF B']? = some ((aheadL 0 A')[cF B']'(by omega)) := List.getElem?_eq_getElem (by omega)
                have hy : (aheadL 0 (B' ++ [false]))[cF B']? = some (0 + cT B') := by
                  rw [aheadL_snocF, List.getElem?_append_right (by rw [aheadL_len]; exact Nat.le_refl _), aheadL_len, Nat.sub_self]; rfl
                have := D.le _ _ _ (by rw [aheadL_snocT]; exact hx) hy
                have hm := aheadL_le A' 0 _ (List.mem_of_getElem? hx)
                omega
end Pl
namespace Pl
def Rise (m : Nat) : Nat → List Nat → Prop
  | d, [] => d ≤ m
  | d, a :: as => d ≤ a ∧ Rise m a as
def ordW (d : Nat) : List Nat → Nat → List Bool
  | [], m => List.replicate (m - d) true
  | a :: as, m => List.replicate (a - d) true ++ false :: ordW a as m
theorem Rise.le {m : Nat} : ∀ {as : List Nat} {d : Nat}, Rise m d as → d ≤ m
  | [], _, h => h
  | a :: as, d, h => Nat.le_trans h.1 (Rise.le h.2)
theorem cT_rep : ∀ n : Nat, cT (List.replicate n true) = n
  | 0 => rfl
  | n + 1 => by show cT (List.replicate n true) + 1 = n + 1; rw [cT_rep n]
theorem cF_rep : ∀ n : Nat, cF (List.replicate n true) = 0
  | 0 => rfl
  | n + 1 => cF_rep n
theorem ahead_rep (o : List Bool) : ∀ (n k : Nat), aheadL k (List.replicate n true ++ o) = aheadL (k + n) o
  | 0, k => rfl
  | n + 1, k => by
    show aheadL (k + 1) (List.replicate n true ++ o) = _
    rw [ahead_rep o n (k + 1), show k + 1 + n = k + (n + 1) by omega]
theorem ordW_cT {m : Nat} : ∀ {as : List Nat} {d : Nat}, Rise m d as → cT (ordW d as m) = m - d
  | [], d, _ => cT_rep _
  | a :: as, d, h => by
    show cT (List.replicate (a - d) true ++ false :: ordW a as m) = m - d
    rw [cT_append, cT_rep]
    show a - d + cT (ordW a as m) = m - d
    rw [ordW_cT h.2]
    have := h.1; have := h.2.le; omega
theorem ordW_cF (m : Nat) : ∀ (as : List Nat) (d : Nat), cF (ordW d as m) = as.length
  | [], d => cF_rep _
  | a :: as, d => by
    show cF (List.replicate (a - d) true ++ false :: ordW a as m) = as.length + 1
    rw [cF_append, cF_rep]
    show 0 + (cF (ordW a as m) + 1) = as.length + 1
    rw [ordW_cF m as a]; omega
theorem ordW_ahead {m : Nat} : ∀ {as : List Nat} {d : Nat}, Rise m d as → aheadL d (ordW d as m) = as
  | [], d, _ => by
    show aheadL d (List.replicate (m - d) true) = []
    have := ahead_rep [] (m - d) d
    rw [List.append_nil] at this
    rw [this]; rfl
  | a :: as, d, h => by
    show aheadL d (List.replicate (a - d) true ++ false :: ordW a as m) = a :: as
    rw [ahead_rep, show d + (a - d) = a by have := h.1; omega]
    show a :: aheadL a (ordW a as m) = a :: as
    rw [ordW_ahead h.2]
theorem ordW_step {m k : Nat} : ∀ {as : List Nat}, Rise m (k + 1) as → ordW k as m = true :: ordW (k + 1) as m
  | [], h => by
    have h : k + 1 ≤ m := h
    show List.replicate (m - k) true = true :: List.replicate (m - (k + 1)) true
    rw [show m - k = (m - (k + 1)) + 1 by omega]; rfl
  | a :: as, h => by
    have := h.1
    show List.replicate (a - k) true ++ false :: ordW a as m = true :: (List.replicate (a - (k + 1)) true ++ false :: ordW a as m)
    rw [show a - k = (a - (k + 1)) + 1 by omega]; rfl
theorem rise_ahead : ∀ (o : List Bool) (k : Nat), Rise (k + cT o) k (aheadL k o)
  | [], k => by show k ≤ k + 0; omega
  | true :: o, k => by
    show Rise (k + (cT o + 1)) k (aheadL (k + 1) o)
    have h := rise_ahead o (k + 1)
    rw [show k + 1 + cT o = k + (cT o + 1) by omega] at h
    generalize aheadL (k + 1) o = as at h
    cases as with
    | nil => show k ≤ _; omega
    | cons a as => exact ⟨by have := h.1; omega, h.2⟩
  | false :: o, k => ⟨Nat.le_refl _, rise_ahead o k⟩
theorem ord_of : ∀ (o : List Bool) (k : Nat), ordW k (aheadL k o) (k + cT o) = o
  | [], k => by show List.replicate (k + 0 - k) true = []; rw [show k + 0 - k = 0 by omega]; rfl
  | true :: o, k => by
    show ordW k (aheadL (k + 1) o) (k + (cT o + 1)) = true :: o
    have h := rise_ahead o (k + 1)
    rw [show k + 1 + cT o = k + (cT o + 1) by omega] at h
    rw [ordW_step h]
    have e := ord_of o (k + 1)
    rw [show k + 1 + cT o = k + (cT o + 1) by omega] at e
    rw [e]
  | false :: o, k => by
    show List.replicate (k - k) true ++ false :: ordW k (aheadL k o) (k + cT o) = false :: o
    rw [Nat.sub_self, ord_of o k]; rfl
theorem rise_get {m : Nat} : ∀ {as : List Nat} {d : Nat}, Rise m d as → ∀ (i j x y : Nat), i ≤ j → as[i]? = some x → as[j]? = some y → x ≤ y ∧ d ≤ x ∧ y ≤ m
  | [], _, _, i, j, x, y, _, h, _ => by simp at h
  | a :: as, d, h, 0, 0, x, y, _, h1, h2 => by
    have e1 : a = x := by simpa using h1
    have e2 : a = y := by simpa using h2
    subst e1 e2
    exact ⟨Nat.le_refl _, h.1, h.2.le⟩
  | a :: as, d, h, 0, j + 1, x, y, _, h1, h2 => by
    have e1 : a = x := by simpa using h1
    subst e1
    have h2 : as[j]? = some y := by simpa using h2
    have := rise_get h.2 j j y y (Nat.le_refl _) h2 h2
    exact ⟨this.2.1, h.1, this.2.2⟩
  | a :: as, d, h, i + 1, j + 1, x, y, hij, h1, h2 => by
    have := rise_get h.2 i j x y (by omega) (by simpa using h1) (by simpa using h2)
    exact ⟨this.1, Nat.le_trans h.1 this.2.1, this.2.2⟩
  | a :: as, d, h, i + 1, 0, x, y, hij, _, _ => by omega
theorem rise_of {m : Nat} (f : Nat → Nat) (hm : ∀ i, f i ≤ m) : ∀ (n k d : Nat), d ≤ m → (∀ i, k ≤ i → d ≤ f i) → (∀ i j, i ≤ j → f i ≤ f j) → Rise m d ((List.range' k n).map f)
  | 0, k, d, h0, _, _ => h0
  | n + 1, k, d, h0, hd, hf => ⟨hd k (Nat.le_refl _), rise_of f hm n (k + 1) (f k) (hm k) (fun i hi => hf k i (by omega)) hf⟩
abbrev Wo := Bool × Nat × Nat
def hasW (as : List Nat) (w : Wo) : Bool := w.1 == decide (w.2.1 < as.getD w.2.2 0)
def contr (u v : Wo) : Bool := match u.1, v.1 with
  | true, false => decide (v.2.1 ≤ u.2.1) && decide (u.2.2 ≤ v.2.2)
  | false, true => decide (u.2.1 ≤ v.2.1) && decide (v.2.2 ≤ u.2.2)
  | _, _ => false
def loN (ws : List Wo) (f : Nat) : Nat := ((ws.filter fun w => w.1 && decide (w.2.2 ≤ f)).map fun w => w.2.1 + 1).foldl max 0
def hiN (m : Nat) (ws : List Wo) (f : Nat) : Nat := ((ws.filter fun w => !w.1 && decide (f ≤ w.2.2)).map fun w => w.2.1).foldl min m
theorem nmax_le {b : Nat} : ∀ {l : List Nat} {a : Nat}, l.foldl max a ≤ b ↔ a ≤ b ∧ ∀ x ∈ l, x ≤ b
  | [], a => by simp
  | x :: l, a => by
    rw [List.foldl_cons, nmax_le]
    simp
    constructor
    · rintro ⟨h1, h2⟩; exact ⟨by omega, by omega, h2⟩
    · rintro ⟨h1, h2, h3⟩; exact ⟨by omega, h3⟩
theorem nmin_ge {b : Nat} : ∀ {l : List Nat} {a : Nat}, b ≤ l.foldl min a ↔ b ≤ a ∧ ∀ x ∈ l, b ≤ x
  | [], a => by simp
  | x :: l, a => by
    rw [List.foldl_cons, nmin_ge]
    simp
    constructor
    · rintro ⟨h1, h2⟩; exact ⟨by omega, by omega, h2⟩
    · rintro ⟨h1, h2, h3⟩; exact ⟨by omega, h3⟩
theorem lo_le {ws : List Wo} {f b : Nat} : loN ws f ≤ b ↔ ∀ w ∈ ws, w.1 = true → w.2.2 ≤ f → w.2.1 + 1 ≤ b := by
  unfold loN
  rw [nmax_le]
  constructor
  · rintro ⟨_, h⟩ w hw h1 h2
    exact h _ (List.mem_map.mpr ⟨w, List.mem_filter.mpr ⟨hw, by simp [h1, h2]⟩, rfl⟩)
  · intro h
    refine ⟨Nat.zero_le _, fun x hx => ?_⟩
    obtain ⟨w, hw, rfl⟩ := List.mem_map.mp hx
    obtain ⟨hw, hp⟩ := List.mem_filter.mp hw
    have hp : w.1 = true ∧ w.2.2 ≤ f := by simpa using hp
    exact h w hw hp.1 hp.2
theorem hi_ge {m : Nat} {ws : List Wo} {f b : Nat} : b ≤ hiN m ws f ↔ b ≤ m ∧ ∀ w ∈ ws, w.1 = false → f ≤ w.2.2 → b ≤ w.2.1 := by
  unfold hiN
  rw [nmin_ge]
  constructor
  · rintro ⟨h0, h⟩
    exact ⟨h0, fun w hw h1 h2 => h _ (List.mem_map.mpr ⟨w, List.mem_filter.mpr ⟨hw, by simp [h1, h2]⟩, rfl⟩)⟩
  · rintro ⟨h0, h⟩
    refine ⟨h0, fun x hx => ?_⟩
    obtain ⟨w, hw, rfl⟩ := List.mem_map.mp hx
    obtain ⟨hw, hp⟩ := List.mem_filter.mp hw
    have hp : w.1 = false ∧ f ≤ w.2.2 := by simpa using hp
    exact h w hw hp.1 hp.2
theorem lo_rise (ws : List Wo) {f g : Nat} (h : f ≤ g) : loN ws f ≤ loN ws g := lo_le.mpr fun w hw h1 h2 => lo_le.mp (Nat.le_refl (loN ws g)) w hw h1 (by omega)
theorem hi_rise (m : Nat) (ws : List Wo) {f g : Nat} (h : f ≤ g) : hiN m ws f ≤ hiN m ws g := hi_ge.mpr ⟨(hi_ge.mp (Nat.le_refl (hiN m ws f))).1, fun w hw h1 h2 => (hi_ge.mp (Nat.le_refl (hiN m ws f))).2 w hw h1 (by omega)⟩
def InB (m n : Nat) (ws : List Wo) : Prop := ∀ w ∈ ws, w.2.1 < m ∧ w.2.2 < n
theorem lo_top {m n : Nat} {ws : List Wo} (h : InB m n ws) (f : Nat) : loN ws f ≤ m := lo_le.mpr fun w hw _ _ => (h w hw).1
theorem hi_top (m : Nat) (ws : List Wo) (f : Nat) : hiN m ws f ≤ m := (hi_ge.mp (Nat.le_refl (hiN m ws f))).1
def loL (n : Nat) (ws : List Wo) : List Nat := (List.range' 0 n).map (loN ws)
def hiL (m n : Nat) (ws : List Wo) : List Nat := (List.range' 0 n).map (hiN m ws)
theorem loL_rise {m n : Nat} {ws : List Wo} (h : InB m n ws) : Rise m 0 (loL n ws) := rise_of _ (lo_top h) n 0 0 (Nat.zero_le _) (fun _ _ => Nat.zero_le _) fun _ _ h => lo_rise ws h
theorem hiL_rise (m n : Nat) (ws : List Wo) : Rise m 0 (hiL m n ws) := rise_of _ (hi_top m ws) n 0 0 (Nat.zero_le _) (fun _ _ => Nat.zero_le _) fun _ _ h => hi_rise m ws h
theorem has_between {m : Nat} {as : List Nat} (hr : Rise m 0 as) {ws : List Wo} (hb : InB m as.length ws) (h : ∀ w ∈ ws, hasW as w = true) {f x : Nat} (hx : as[f]? = some x) : loN ws f ≤ x ∧ x ≤ hiN m ws f := by
  refine ⟨lo_le.mpr fun w hw h1 h2 => ?_, hi_ge.mpr ⟨(rise_get hr f f x x (Nat.le_refl _) hx hx).2.2, fun w hw h1 h2 => ?_⟩⟩
  · have hh := h w hw
    unfold hasW at hh
    rw [h1] at hh
    have hlt : w.2.1 < as.getD w.2.2 0 := by simpa using hh
    have hg : as[w.2.2]? = some (as[w.2.2]'(hb w hw).2) := List.getElem?_eq_getElem _
    rw [List.getD_eq_getElem?_getD, hg] at hlt
    have := (rise_get hr _ _ _ _ h2 hg hx).1
    have hlt : w.2.1 < as[w.2.2]'(hb w hw).2 := hlt
    omega
  · have hh := h w hw
    unfold hasW at hh
    rw [h1] at hh
    have hlt : ¬ w.2.1 < as.getD w.2.2 0 := by simpa using hh
    have hg : as[w.2.2]? = some (as[w.2.2]'(hb w hw).2) := List.getElem?_eq_getElem _
    rw [List.getD_eq_getElem?_getD, hg] at hlt
    have := (rise_get hr _ _ _ _ h2 hx hg).1
    have hlt : ¬ w.2.1 < as[w.2.2]'(hb w hw).2 := hlt
    omega
theorem has_noclash {m : Nat} {as : List Nat} (hr : Rise m 0 as) {u v : Wo} (hu : u.2.2 < as.length) (hv : v.2.2 < as.length) (h1 : hasW as u = true) (h2 : hasW as v = true) : contr u v = false := by
  have key : ∀ {u v : Wo}, u.2.2 < as.length → v.2.2 < as.length → hasW as u = true → hasW as v = true → u.1 = true → v.1 = false → ¬ (v.2.1 ≤ u.2.1 ∧ u.2.2 ≤ v.2.2) := by
    intro u v hu hv h1 h2 e1 e2 hh
    unfold hasW at h1 h2
    rw [e1] at h1
    rw [e2] at h2
    have a1 : u.2.1 < as.getD u.2.2 0 := by simpa using h1
    have a2 : ¬ v.2.1 < as.getD v.2.2 0 := by simpa using h2
    have g1 : as[u.2.2]? = some (as[u.2.2]'hu) := List.getElem?_eq_getElem _
    have g2 : as[v.2.2]? = some (as[v.2.2]'hv) := List.getElem?_eq_getElem _
    rw [List.getD_eq_getElem?_getD, g1] at a1
    rw [List.getD_eq_getElem?_getD, g2] at a2
    have a1 : u.2.1 < as[u.2.2]'hu := a1
    have a2 : ¬ v.2.1 < as[v.2.2]'hv := a2
    have := (rise_get hr _ _ _ _ hh.2 g1 g2).1
    omega
  unfold contr
  cases e1 : u.1 with
  | true =>
    cases e2 : v.1 with
    | true => rfl
    | false => have := key hu hv h1 h2 e1 e2; simpa using fun h => by have := this; omega
  | false =>
    cases e2 : v.1 with
    | false => rfl
    | true => have := key hv hu h2 h1 e2 e1; simpa using fun h => by have := this; omega
theorem get_lo {n : Nat} {ws : List Wo} {f x : Nat} (h : (loL n ws)[f]? = some x) : x = loN ws f ∧ f < n := by
  unfold loL at h
  rw [List.getElem?_map] at h
  by_cases hf : f < n
  · rw [List.getElem?_range' hf] at h
    have h : loN ws (0 + 1 * f) = x := by simpa using h
    rw [show 0 + 1 * f = f by omega] at h
    exact ⟨h.symm, hf⟩
  · rw [List.getElem?_eq_none (by simpa using hf)] at h; cases h
theorem get_hi {m n : Nat} {ws : List Wo} {f x : Nat} (h : (hiL m n ws)[f]? = some x) : x = hiN m ws f ∧ f < n := by
  unfold hiL at h
  rw [List.getElem?_map] at h
  by_cases hf : f < n
  · rw [List.getElem?_range' hf] at h
    have h : hiN m ws (0 + 1 * f) = x := by simpa using h
    rw [show 0 + 1 * f = f by omega] at h
    exact ⟨h.symm, hf⟩
  · rw [List.getElem?_eq_none (by simpa using hf)] at h; cases h
end Pl
namespace Pl
def wayL (lo hi : Nat) : Nat → List Int → List Int
  | _, [] => []
  | k, x :: r => ((if lo ≤ k ∧ k ≤ hi then x else 0) + (wayL lo hi (k + 1) r).headD 0) :: wayL lo hi (k + 1) r
def baseL (m : Nat) : List Int := List.replicate (m + 1) 1 ++ [0]
def rowsL (m : Nat) : List (Nat × Nat) → List Int
  | [] => baseL m
  | b :: bs => wayL b.1 b.2 0 (rowsL m bs)
def manyL (m : Nat) (bs : List (Nat × Nat)) : Int := (rowsL m bs).headD 0
theorem wayL_len (lo hi : Nat) : ∀ (r : List Int) (k : Nat), (wayL lo hi k r).length = r.length
  | [], _ => rfl
  | x :: r, k => by simp [wayL, wayL_len lo hi r]
theorem rowsL_len (m : Nat) : ∀ bs : List (Nat × Nat), (rowsL m bs).length = m + 2
  | [] => by simp [rowsL, baseL]
  | b :: bs => by rw [rowsL, wayL_len, rowsL_len m bs]
theorem headD_getD (l : List Int) : l.headD 0 = l.getD 0 0 := by cases l <;> rfl
theorem way_get (lo hi : Nat) : ∀ (r : List Int) (k i : Nat), (wayL lo hi k r).getD i 0 = (if lo ≤ k + i ∧ k + i ≤ hi then r.getD i 0 else 0) + (wayL lo hi k r).getD (i + 1) 0
  | [], k, i => by simp [wayL]
  | x :: r, k, 0 => by
    show (if lo ≤ k ∧ k ≤ hi then x else 0) + (wayL lo hi (k + 1) r).headD 0 = _
    rw [headD_getD]; rfl
  | x :: r, k, i + 1 => by
    show (wayL lo hi (k + 1) r).getD i 0 = (if lo ≤ k + (i + 1) ∧ k + (i + 1) ≤ hi then r.getD i 0 else 0) + (wayL lo hi (k + 1) r).getD (i + 1) 0
    have := way_get lo hi r (k + 1) i
    rw [show k + 1 + i = k + (i + 1) by omega] at this
    exact this
theorem rowL_out (m : Nat) (bs : List (Nat × Nat)) (i : Nat) (h : m + 2 ≤ i) : (rowsL m bs).getD i 0 = 0 := by
  rw [List.getD_eq_getElem?_getD, List.getElem?_eq_none (by rw [rowsL_len]; exact h)]; rfl
theorem rowL_get (m : Nat) (b : Nat × Nat) (bs : List (Nat × Nat)) (i : Nat) : (rowsL m (b :: bs)).getD i 0 = (if b.1 ≤ i ∧ i ≤ b.2 then (rowsL m bs).getD i 0 else 0) + (rowsL m (b :: bs)).getD (i + 1) 0 := by
  have := way_get b.1 b.2 (rowsL m bs) 0 i
  rw [Nat.zero_add] at this
  exact this
theorem base_get (m i : Nat) : (baseL m).getD i 0 = if i ≤ m then 1 else 0 := by
  unfold baseL
  rw [List.getD_eq_getElem?_getD]
  by_cases h : i ≤ m
  · rw [if_pos h, List.getElem?_append_left (by simp; omega), List.getElem?_replicate, if_pos (by omega)]; rfl
  · rw [if_neg h, List.getElem?_append_right (by simp; omega)]
    rw [List.length_replicate]
    rcases Nat.eq_zero_or_pos (i - (m + 1)) with z | z
    · rw [z]; rfl
    · rw [List.getElem?_eq_none (by show 1 ≤ i - (m + 1); omega)]; rfl
theorem down_ind {N : Nat} {P : Nat → Prop} (h0 : ∀ i, N ≤ i → P i) (hs : ∀ i, P (i + 1) → P i) : ∀ i, P i := by
  intro i
  have : ∀ d i, N - i ≤ d → P i := by
    intro d
    induction d with
    | zero => intro i h; exact h0 i (by omega)
    | succ d ih => intro i h; exact hs i (ih (i + 1) (by omega))
  exact this N i (by omega)
theorem rowL_nonneg (m : Nat) : ∀ (bs : List (Nat × Nat)) (i : Nat), 0 ≤ (rowsL m bs).getD i 0
  | [], i => by show 0 ≤ (baseL m).getD i 0; rw [base_get]; split <;> omega
  | b :: bs, i => by
    refine down_ind (N := m + 2) (P := fun i => 0 ≤ (rowsL m (b :: bs)).getD i 0) (fun i h => by rw [rowL_out m _ i h]; omega) (fun i h => ?_) i
    rw [rowL_get]
    have := rowL_nonneg m bs i
    split <;> omega
def Fits2 (m : Nat) : Nat → List (Nat × Nat) → List Nat → Prop
  | d, [], [] => d ≤ m
  | d, b :: bs, a :: as => d ≤ a ∧ b.1 ≤ a ∧ a ≤ b.2 ∧ Fits2 m a bs as
  | _, _, _ => False
theorem rowL_later (m : Nat) (b : Nat × Nat) (bs : List (Nat × Nat)) : ∀ (d a : Nat), d ≤ a → (rowsL m (b :: bs)).getD a 0 ≤ (rowsL m (b :: bs)).getD d 0 := by
  intro d a h
  obtain ⟨k, rfl⟩ := Nat.exists_eq_add_of_le h
  clear h
  induction k with
  | zero => exact Int.le_refl _
  | succ k ih =>
    have := rowL_get m b bs (d + k)
    have h2 := rowL_nonneg m bs (d + k)
    rw [show d + (k + 1) = d + k + 1 by omega]
    split at this <;> omega
end Pl
namespace Pl
open PySem PySem.Spec PyProof.Rows L2
def sg : Bool → Nat
  | true => 99
  | false => 102
def sgS (b : Bool) : Str := ⟨#[sg b]⟩
def txt (o : List Bool) : Str := ⟨(o.map sg).toArray⟩
def sgD (b : Bool) : D := .str (sgS b)
theorem signs_txt (o : List Bool) : signsD (txt o) = o.map sgD := by
  unfold signsD txt
  rw [List.map_map]; rfl
theorem txt_len (o : List Bool) : (txt o).length = o.length := by
  show (o.map sg).toArray.size = o.length
  simp
theorem txt_append (a b : List Bool) : txt a ++ txt b = txt (a ++ b) := by
  show (⟨(a.map sg).toArray ++ (b.map sg).toArray⟩ : Str) = ⟨((a ++ b).map sg).toArray⟩
  simp
theorem eqv_sgc (b : Bool) : (sgD b).eqv (.str "c") = b := by cases b <;> decide +kernel
theorem sh_sg (b : Bool) : (sgD b).sh := by cases b <;> (unfold D.sh; decide +kernel)
theorem sh_c : (D.str "c").sh := by unfold D.sh; decide +kernel
theorem eqv_words' (a b : Bool) : (D.str (wordS a)).eqv (.str (wordS b)) = (a == b) := by cases a <;> cases b <;> decide +kernel
theorem sh_word' (c : Bool) : (D.str (wordS c)).sh := by cases c with | true => exact sh_cut | false => exact sh_fill
theorem atI_get {ns : List Int} {j : Nat} (h : j < ns.length) : atI (dI ns) ((j : Nat) : Int) = some (.int (ns.getD j 0)) := atI_ints' h
def g_almanac_of : FA := fun ds C => ∃ d cuts e fills o, ds = [d, e, .str (txt o)] ∧ Sq d cuts ∧ Sq e fills ∧ cT o ≤ cuts.length ∧ cF o ≤ fills.length ∧ o.length ≤ 900 ∧ ∀ p, C (.own p (windsD (almL cuts fills 0 0 o)))
theorem rd_almanac_of : ∀ ds C, ds.length = 3 → g_almanac_of ds C → T_almanac_of { nx := fun _ => C (.val .non), rt := fun c _ => C c } (startA N_almanac_of ds) := by
  rintro ds C - ⟨d, cuts, e, fills, o, rfl, hd, he, hc, hf, hl, hC⟩
  have h2 : (2 : Nat) ≤ sizeLine := by decide
  have ix : ∀ {d : D} {ns : List Int} {j : Nat} {Q : D → Prop}, Sq d ns → j < ns.length → Q (.int (ns.getD j 0)) → fIx d (.int ((j : Nat) : Int)) Q := by
    intro d ns j Q hd hj hq
    rcases hd with rfl | rfl
    · exact ⟨_, atI_get hj, hq⟩
    · exact ⟨_, atI_get hj, hq⟩
  refine ⟨by show (0 : Nat) ≤ sizeLine; decide, fun b => ?_⟩
  show forW _ _ _ (signsD (txt o)) _
  rw [signs_txt]
  refine for_inv (fun ds ρ => ∃ (done rest : List Bool) (w : Option Cell), ds = rest.map sgD ∧ o = done ++ rest ∧ ρ = [some (.val d), some (.val e), some (.val (.str (txt o))), some (.own b (windsD (almL cuts fills 0 0 done))), some (.val (.int ((cT done : Nat) : Int))), some (.val (.int ((cF done : Nat) : Int))), w]) (fun x r ρ K hK hI => ?_) (fun ρ hI => ?_) _ _ ⟨[], o, none, rfl, rfl, rfl⟩
  · obtain ⟨done, rest, w, e1, e2, rfl⟩ := hI
    cases rest with
    | nil => cases e1
    | cons s rest =>
      cases e1
      have hT : cT done + cT (s :: rest) = cT o := by rw [e2, cT_append]
      have hF : cF done + cF (s :: rest) = cF o := by rw [e2, cF_append]
      have hlen : done.length + (rest.length + 1) = o.length := by rw [e2]; simp
      have hz : (windsD (almL cuts fills 0 0 done)).length < sizeLine := small1000 (by rw [windsD_len, almL_len]; omega)
      refine ⟨sh_sg s, sh_c, ?_⟩
      cases s with
      | true =>
        have hT : cT done + (cT rest + 1) = cT o := hT
        refine ifT (eqv_sgc true) ?_
        refine ix hd (by omega) ⟨h2, _, rfl, hz, ?_⟩
        refine ⟨_, rfl, hK _ ⟨done ++ [true], rest, some (.val (sgD true)), rfl, by rw [e2]; simp, ?_⟩⟩
        rw [almL_snocT, ← windsD_append, cT_append, cF_append, Nat.zero_add]
        show [some (Cell.val d), some (.val e), some (.val (.str (txt o))), some (.own b (windsD (almL cuts fills 0 0 done) ++ [windD true (cuts.getD (cT done) 0)])), some (.val (.int (((cT done : Nat) : Int) + 1))), some (.val (.int ((cF done : Nat) : Int))), some (.val (sgD true))] = _
        rfl
      | false =>
        have hF : cF done + (cF rest + 1) = cF o := hF
        refine ifF (eqv_sgc false) ?_
        refine ix he (by omega) ⟨h2, _, rfl, hz, ?_⟩
        refine ⟨_, rfl, hK _ ⟨done ++ [false], rest, some (.val (sgD false)), rfl, by rw [e2]; simp, ?_⟩⟩
        rw [almL_snocF, ← windsD_append, cT_append, cF_append, Nat.zero_add]
        rfl
  · obtain ⟨done, rest, w, e1, e2, rfl⟩ := hI
    cases rest with
    | cons s rest => cases e1
    | nil =>
      rw [List.append_nil] at e2
      subst e2
      exact hC b
def wordD (w : Wo) : D := .tup [.str (wordS w.1), .int ((w.2.1 : Nat) : Int), .int ((w.2.2 : Nat) : Int)]
def wordsD (ws : List Wo) : List D := ws.map wordD
theorem wordsD_len (ws : List Wo) : (wordsD ws).length = ws.length := by simp [wordsD]
def Ws (d : D) (ws : List Wo) : Prop := d = .lst (wordsD ws) ∨ d = .tup (wordsD ws)
def g_are_contrary : FA := fun ds C => ∃ u v, ds = [wordD u, wordD v] ∧ C (.val (.bl (contr u v)))
theorem bl_le {a b : Nat} : decide (((a : Nat) : Int) ≤ ((b : Nat) : Int)) = decide (a ≤ b) := decide_eq_decide.mpr (by omega)
theorem rd_are_contrary : ∀ ds C, ds.length = 2 → g_are_contrary ds C → T_are_contrary { nx := fun _ => C (.val .non), rt := fun c _ => C c } (startA N_are_contrary ds) := by
  rintro ds C - ⟨⟨a, c, f⟩, ⟨a', c', f'⟩, rfl, hC⟩
  have h2 : (2 : Nat) ≤ sizeLine := by decide
  refine ⟨_, rfl, _, rfl, sh_word' a, sh_word' a', ?_⟩
  refine ifB (fun h => ?_) (fun h => ?_)
  · rw [show (D.str (wordS a)).eqv (.str (wordS a')) = _ from eqv_words' a a'] at h
    have h : a = a' := by simpa using h
    subst h
    have e : contr (a, c, f) (a, c', f') = false := by cases a <;> rfl
    rw [e] at hC
    exact hC
  · rw [show (D.str (wordS a)).eqv (.str (wordS a')) = _ from eqv_words' a a'] at h
    have h : a ≠ a' := by simpa using h
    refine ⟨_, rfl, sh_word' a, sh_cut, ?_⟩
    cases a with
    | true =>
      have e : a' = false := by cases a' <;> simp at h ⊢
      subst e
      refine ifT (show (D.str (wordS true)).eqv (.str (wordS true)) = true from eqv_words' true true) ⟨h2, rfl, rfl, ?_⟩
      have e : contr (true, c, f) (false, c', f') = (decide (c' ≤ c) && decide (f ≤ f')) := rfl
      rw [e] at hC
      refine ⟨_, rfl, _, rfl, ifB (fun q => ?_) (fun q => ?_)⟩
      · rw [bl_le] at q; rw [q] at hC
        refine ⟨_, rfl, _, rfl, ?_⟩
        show C (.val (.bl (decide (((f : Nat) : Int) ≤ ((f' : Nat) : Int)))))
        rw [bl_le]; exact hC
      · rw [bl_le] at q; rw [q] at hC; exact hC
    | false =>
      have e : a' = true := by cases a' <;> simp at h ⊢
      subst e
      refine ifF (show (D.str (wordS false)).eqv (.str (wordS true)) = false from eqv_words' false true) ⟨h2, rfl, rfl, ?_⟩
      have e : contr (false, c, f) (true, c', f') = (decide (c ≤ c') && decide (f' ≤ f)) := rfl
      rw [e] at hC
      refine ⟨_, rfl, _, rfl, ifB (fun q => ?_) (fun q => ?_)⟩
      · rw [bl_le] at q; rw [q] at hC
        refine ⟨_, rfl, _, rfl, ?_⟩
        show C (.val (.bl (decide (((f' : Nat) : Int) ≤ ((f : Nat) : Int)))))
        rw [bl_le]; exact hC
      · rw [bl_le] at q; rw [q] at hC; exact hC
def NoClash (ws : List Wo) : Prop := ∀ u ∈ ws, ∀ v ∈ ws, contr u v = false
theorem atI_words {ws : List Wo} {j : Nat} {w : Wo} (h : ws[j]? = some w) : atI (wordsD ws) ((j : Nat) : Int) = some (wordD w) := by
  refine atI_nat ?_
  unfold wordsD; rw [List.getElem?_map, h]; rfl
def g_first_clash : FA := fun ds C => ∃ d ws, ds = [d] ∧ Ws d ws ∧ NoClash ws ∧ ws.length ≤ 1000 ∧ C (.val .non)
theorem rd_first_clash : ∀ ds C, ds.length = 1 → g_first_clash ds C → T_first_clash g_are_contrary { nx := fun _ => C (.val .non), rt := fun c _ => C c } (startA N_first_clash ds) := by
  rintro ds C - ⟨d, ws, rfl, hd, hn, hl, hC⟩
  have ix : ∀ {j : Nat} {w : Wo} {Q : D → Prop}, ws[j]? = some w → Q (wordD w) → fIx d (.int ((j : Nat) : Int)) Q := by
    intro j w Q hj hq
    rcases hd with rfl | rfl
    · exact ⟨_, atI_words hj, hq⟩
    · exact ⟨_, atI_words hj, hq⟩
  have key : ∀ (P : PEnds), (∀ ρ, P.nx ρ) → forW (hName 1) (pFor (jRng2 (pCons (pOp fAdd (pVar 1) (pC (.int 1))) (pCons (pLenO 0) pNil))) (hName 2) (pIfS (pTest (pFrz (pCallA 2 g_are_contrary (pCons (pIxO 0 (pVar 1)) (pCons (pIxO 0 (pVar 2)) pNil))))) (pRet (pVal (pTup (pCons (pVar 1) (pCons (pVar 2) pNil))))) pNext)) P (rangeD 0 ws.length) [some (.val d), none, none] := by
    intro P hP
    rw [rangeD_map]
    refine for_inv (fun ds ρ => (∀ x ∈ ds, ∃ i : Nat, x = .int i ∧ i < ws.length) ∧ ∃ w1 w2, ρ = [some (.val d), w1, w2]) (fun x r ρ K hK hI => ?_) (fun ρ hI => hP ρ) _ _ ⟨fun x hx => ?_, _, _, rfl⟩
    · obtain ⟨hx, w1, w2, rfl⟩ := hI
      obtain ⟨i, rfl, hi⟩ := hx x (by simp)
      have inner : forW (hName 2) (pIfS (pTest (pFrz (pCallA 2 g_are_contrary (pCons (pIxO 0 (pVar 1)) (pCons (pIxO 0 (pVar 2)) pNil))))) (pRet (pVal (pTup (pCons (pVar 1) (pCons (pVar 2) pNil))))) pNext) { P with nx := K, ct := K, bk := P.nx } (rangeD ((i : Int) + 1) (((ws.length : Nat) : Int) - ((i : Int) + 1)).toNat) [some (.val d), some (.val (.int (i : Int))), w2] := by
        refine for_inv (fun ds ρ => (∀ x ∈ ds, ∃ j : Nat, x = .int j ∧ j < ws.length) ∧ ∃ w2, ρ = [some (.val d), some (.val (.int (i : Int))), w2]) (fun x2 r2 ρ K2 hK2 hI2 => ?_) (fun ρ hI2 => ?_) _ _ ⟨fun x2 hx2 => ?_, _, rfl⟩
        · obtain ⟨hx2, w2, rfl⟩ := hI2
          obtain ⟨j, rfl, hj⟩ := hx2 x2 (by simp)
          refine ix (List.getElem?_eq_getElem hi) (ix (List.getElem?_eq_getElem hj) ⟨rfl, ws[i], ws[j], rfl, ifF (hn _ (List.getElem_mem hi) _ (List.getElem_mem hj)) ?_⟩)
          exact hK2 _ ⟨fun y hy => hx2 y (by simp [hy]), _, rfl⟩
        · obtain ⟨_, w2, rfl⟩ := hI2
          exact hK _ ⟨fun y hy => hx y (by simp [hy]), _, _, rfl⟩
        · unfold rangeD at hx2
          obtain ⟨j, hj, rfl⟩ := List.mem_map.mp hx2
          have := List.mem_range.mp hj
          exact ⟨i + 1 + j, by congr 1, by omega⟩
      rcases hd with rfl | rfl
      · refine ⟨⟨by show (-(2 ^ 62) : Int) ≤ (i : Int) + 1; omega, by show (i : Int) + 1 < 2 ^ 62; omega, by show (-(2 ^ 62) : Int) ≤ (((wordsD ws).length : Nat) : Int); rw [wordsD_len]; omega, by show (((wordsD ws).length : Nat) : Int) < 2 ^ 62; rw [wordsD_len]; omega⟩, ?_⟩
        show forW _ _ _ (rangeD ((i : Int) + 1) ((((wordsD ws).length : Nat) : Int) - ((i : Int) + 1)).toNat) _
        rw [wordsD_len]; exact inner
      · refine ⟨⟨by show (-(2 ^ 62) : Int) ≤ (i : Int) + 1; omega, by show (i : Int) + 1 < 2 ^ 62; omega, by show (-(2 ^ 62) : Int) ≤ (((wordsD ws).length : Nat) : Int); rw [wordsD_len]; omega, by show (((wordsD ws).length : Nat) : Int) < 2 ^ 62; rw [wordsD_len]; omega⟩, ?_⟩
        show forW _ _ _ (rangeD ((i : Int) + 1) ((((wordsD ws).length : Nat) : Int) - ((i : Int) + 1)).toNat) _
        rw [wordsD_len]; exact inner
    · obtain ⟨y, hy, rfl⟩ := List.mem_map.mp hx
      obtain ⟨j, hj, rfl⟩ := mem_rng hy
      exact ⟨j, rfl, hj⟩
  have b1 : (-(2 ^ 62) : Int) ≤ (((wordsD ws).length : Nat) : Int) := by rw [wordsD_len]; omega
  have b2 : (((wordsD ws).length : Nat) : Int) < 2 ^ 62 := by rw [wordsD_len]; omega
  have b3 : ((((wordsD ws).length : Nat) : Int)).toNat = ws.length := by rw [wordsD_len]; omega
  rcases hd with rfl | rfl
  · refine ⟨b1, b2, ?_⟩
    rw [b3]
    exact key _ fun ρ => hC
  · refine ⟨b1, b2, ?_⟩
    rw [b3]
    exact key _ fun ρ => hC
def g_refuse_clash : FA := fun ds C => ∃ d ws, ds = [d] ∧ Ws d ws ∧ NoClash ws ∧ ws.length ≤ 1000 ∧ C (.val .non)
theorem rd_refuse_clash : ∀ ds C, ds.length = 1 → g_refuse_clash ds C → T_refuse_clash g_first_clash { nx := fun _ => C (.val .non), rt := fun c _ => C c } (startA N_refuse_clash ds) := by
  rintro ds C - ⟨d, ws, rfl, hd, hn, hl, hC⟩
  exact ⟨rfl, d, ws, rfl, hd, hn, hl, hC⟩
end Pl
namespace Pl
open PySem PySem.Spec PyProof.Rows L2
theorem lcW_words {vs : List Nat} {g : TGp} {tt : TTp} {te : TEp} {Q : List D → Ro → Prop} {p : Wo → Bool} {f : Wo → D} {ρ : Ro} : ∀ (ws : List Wo) (acc : List D),
    (∀ w ∈ ws, ∀ K : Bool → Ro → Prop, (∀ ρ3, restore ρ ρ3 vs = ρ → (p w = true → ∀ K2 : D → Ro → Prop, (∀ ρ4, restore ρ ρ4 vs = ρ → K2 (f w) ρ4) → te ρ3 K2) → K (p w) ρ3) → g (wordD w) (wipeP ρ vs) fun ρ2 => tt ρ2 K) → acc.length + ws.length ≤ 1000 → Q (acc ++ (ws.filter p).map f) ρ → lcW vs g tt te Q (wordsD ws) acc ρ
  | [], acc, _, _, hQ => by
    have hQ : Q (acc ++ []) ρ := hQ
    rw [List.append_nil] at hQ
    exact hQ
  | d :: ds, acc, h, hl, hQ => by
    have hl' : acc.length + (ds.length + 1) ≤ 1000 := hl
    refine h d (by simp) _ fun ρ3 e3 ht => ?_
    cases hp : p d with
    | true =>
      refine ite_ti (ht hp _ fun ρ4 e4 => ⟨small1000 (by omega), ?_⟩)
      rw [e4]
      refine lcW_words ds _ (fun x hx => h x (by simp [hx])) (by rw [List.length_append]; show acc.length + 1 + ds.length ≤ 1000; omega) ?_
      rw [List.filter_cons_of_pos hp, List.map_cons] at hQ
      rw [List.append_assoc]
      exact hQ
    | false =>
      refine ite_fi ?_
      rw [e3]
      refine lcW_words ds _ (fun x hx => h x (by simp [hx])) (by omega) ?_
      rw [List.filter_cons_of_neg (by rw [hp]; simp)] at hQ
      exact hQ
theorem bestDD_max : ∀ l : List Nat, bestDD max (.int 0) (l.map fun (n : Nat) => (n : Int)) = .int ((l.foldl max 0 : Nat) : Int) := by
  have key : ∀ (l : List Nat) (a : Nat), (l.map fun (n : Nat) => (n : Int)).foldl max (a : Int) = ((l.foldl max a : Nat) : Int) := by
    intro l
    induction l with
    | nil => intro a; rfl
    | cons x l ih =>
      intro a
      rw [List.map_cons, List.foldl_cons, List.foldl_cons, ← ih]
      congr 1
      omega
  intro l
  cases l with
  | nil => rfl
  | cons x l =>
    show D.int ((l.map fun (n : Nat) => (n : Int)).foldl max (x : Int)) = .int (((x :: l).foldl max 0 : Nat) : Int)
    rw [key, List.foldl_cons, Nat.zero_max]
theorem bestDD_min (m : Nat) : ∀ l : List Nat, (∀ x ∈ l, x ≤ m) → bestDD min (.int (m : Int)) (l.map fun (n : Nat) => (n : Int)) = .int ((l.foldl min m : Nat) : Int) := by
  have key : ∀ (l : List Nat) (a : Nat), (l.map fun (n : Nat) => (n : Int)).foldl min (a : Int) = ((l.foldl min a : Nat) : Int) := by
    intro l
    induction l with
    | nil => intro a; rfl
    | cons x l ih =>
      intro a
      rw [List.map_cons, List.foldl_cons, List.foldl_cons, ← ih]
      congr 1
      omega
  intro l hl
  cases l with
  | nil => rfl
  | cons x l =>
    show D.int ((l.map fun (n : Nat) => (n : Int)).foldl min (x : Int)) = .int (((x :: l).foldl min m : Nat) : Int)
    rw [key, List.foldl_cons, Nat.min_eq_right (hl x (by simp))]
def g_least_ahead : FA := fun ds C => ∃ d ws f, ds = [d, .int ((f : Nat) : Int)] ∧ Ws d ws ∧ ws.length ≤ 1000 ∧ C (.val (.int ((loN ws f : Nat) : Int)))
theorem rd_least_ahead : ∀ ds C, ds.length = 2 → g_least_ahead ds C → T_least_ahead { nx := fun _ => C (.val .non), rt := fun c _ => C c } (startA N_least_ahead ds) := by
  rintro ds C - ⟨d, ws, f, rfl, hd, hl, hC⟩
  have key : lcW [2, 3, 4] (hTup 3 (hCons (hName 2) (hCons (hName 3) (hCons (hName 4) hNil)))) (pAnd (pTest (pOp fEq (pVar 2) (pC (.str "cut")))) (pTest (pOp fLe (pVar 4) (pVar 1)))) (pOp fAdd (pVar 3) (pC (.int 1))) (fun acc ρ2 => ∃ ns, acc = ns.map D.int ∧ C (.val (bestDD max (.int 0) ns))) (wordsD ws) [] [some (.val d), some (.val (.int (f : Int))), none, none, none] := by
    refine lcW_words (p := fun w => w.1 && decide (w.2.2 ≤ f)) (f := fun w => .int (((w.2.1 + 1 : Nat)) : Int)) ws [] (fun w _ K hK => ?_) (by simpa using hl) ?_
    · refine ⟨rfl, rfl, sh_word' w.1, sh_cut, ?_⟩
      refine ifB (fun h => ?_) (fun h => ?_)
      · have h : w.1 = true := by rw [show (D.str (wordS w.1)).eqv (.str "cut") = _ from eqv_words' w.1 true] at h; simpa using h
        have := hK [some (.val d), some (.val (.int (f : Int))), some (.val (.str (wordS w.1))), some (.val (.int ((w.2.1 : Nat) : Int))), some (.val (.int ((w.2.2 : Nat) : Int)))] rfl fun _ K2 hK2 => hK2 _ rfl
        rw [h] at this
        show K (decide (((w.2.2 : Nat) : Int) ≤ (f : Int))) _
        rw [bl_le, h]
        exact this
      · have h : w.1 = false := by rw [show (D.str (wordS w.1)).eqv (.str "cut") = _ from eqv_words' w.1 true] at h; simpa using h
        have := hK [some (.val d), some (.val (.int (f : Int))), some (.val (.str (wordS w.1))), some (.val (.int ((w.2.1 : Nat) : Int))), some (.val (.int ((w.2.2 : Nat) : Int)))] rfl fun _ K2 hK2 => hK2 _ rfl
        rw [h] at this
        rw [h]
        exact this
    · refine ⟨((ws.filter fun w => w.1 && decide (w.2.2 ≤ f)).map fun w => w.2.1 + 1).map fun (n : Nat) => (n : Int), ?_, ?_⟩
      · rw [List.nil_append, List.map_map, List.map_map]; rfl
      · rw [bestDD_max]; exact hC
  rcases hd with rfl | rfl <;> exact key
def g_most_ahead : FA := fun ds C => ∃ d cuts e ws f, ds = [d, e, .int ((f : Nat) : Int)] ∧ Sq d cuts ∧ Ws e ws ∧ ws.length ≤ 1000 ∧ (∀ w ∈ ws, w.2.1 < cuts.length) ∧ C (.val (.int ((hiN cuts.length ws f : Nat) : Int)))
theorem rd_most_ahead : ∀ ds C, ds.length = 3 → g_most_ahead ds C → T_most_ahead { nx := fun _ => C (.val .non), rt := fun c _ => C c } (startA N_most_ahead ds) := by
  rintro ds C - ⟨d, cuts, e, ws, f, rfl, hd, he, hl, hw, hC⟩
  have key : ∀ Q : List D → Ro → Prop, Q ((ws.filter fun w => !w.1 && decide (f ≤ w.2.2)).map fun w => .int ((w.2.1 : Nat) : Int)) [some (.val d), some (.val e), some (.val (.int (f : Int))), none, none, none] → lcW [3, 4, 5] (hTup 3 (hCons (hName 3) (hCons (hName 4) (hCons (hName 5) hNil)))) (pAnd (pTest (pOp fEq (pVar 3) (pC (.str "fill")))) (pTest (pOp fGe (pVar 5) (pVar 2)))) (pVar 4) Q (wordsD ws) [] [some (.val d), some (.val e), some (.val (.int (f : Int))), none, none, none] := by
    intro Q hQ
    refine lcW_words (p := fun w => !w.1 && decide (f ≤ w.2.2)) (f := fun w => .int ((w.2.1 : Nat) : Int)) ws [] (fun w _ K hK => ?_) (by simpa using hl) (by rw [List.nil_append]; exact hQ)
    refine ⟨rfl, rfl, sh_word' w.1, sh_fill, ?_⟩
    refine ifB (fun h => ?_) (fun h => ?_)
    · have h : w.1 = false := by rw [show (D.str (wordS w.1)).eqv (.str "fill") = _ from eqv_words' w.1 false] at h; simpa using h
      have := hK [some (.val d), some (.val e), some (.val (.int (f : Int))), some (.val (.str (wordS w.1))), some (.val (.int ((w.2.1 : Nat) : Int))), some (.val (.int ((w.2.2 : Nat) : Int)))] rfl fun _ K2 hK2 => hK2 _ rfl
      rw [h] at this
      show K (decide ((f : Int) ≤ ((w.2.2 : Nat) : Int))) _
      rw [bl_le, h]
      exact this
    · have h : w.1 = true := by rw [show (D.str (wordS w.1)).eqv (.str "fill") = _ from eqv_words' w.1 false] at h; simpa using h
      have := hK [some (.val d), some (.val e), some (.val (.int (f : Int))), some (.val (.str (wordS w.1))), some (.val (.int ((w.2.1 : Nat) : Int))), some (.val (.int ((w.2.2 : Nat) : Int)))] rfl fun _ K2 hK2 => hK2 _ rfl
      rw [h] at this
      rw [h]
      exact this
  have fin : C (.val (bestDD min (.int (((dI cuts).length : Nat) : Int)) (((ws.filter fun w => !w.1 && decide (f ≤ w.2.2)).map fun w => w.2.1).map fun (n : Nat) => (n : Int)))) := by
    rw [ints_len, bestDD_min]
    · exact hC
    · intro x hx
      obtain ⟨w, hm, rfl⟩ := List.mem_map.mp hx
      exact Nat.le_of_lt (hw w (List.mem_filter.mp hm).1)
  have e1 : ((ws.filter fun w => !w.1 && decide (f ≤ w.2.2)).map fun w => D.int ((w.2.1 : Nat) : Int)) = (((ws.filter fun w => !w.1 && decide (f ≤ w.2.2)).map fun w => w.2.1).map fun (n : Nat) => (n : Int)).map D.int := by
    rw [List.map_map, List.map_map]; rfl
  rcases hd with rfl | rfl <;> rcases he with rfl | rfl
  all_goals exact key _ ⟨_, e1, fin⟩
def bndL (m n : Nat) (ws : List Wo) : List (Nat × Nat) := (List.range' 0 n).map fun f => (loN ws f, hiN m ws f)
def bndD (b : Nat × Nat) : D := .tup [.int ((b.1 : Nat) : Int), .int ((b.2 : Nat) : Int)]
def g_bounds : FA := fun ds C => ∃ d cuts e fills k ws, ds = [d, e, k] ∧ Sq d cuts ∧ Sq e fills ∧ Ws k ws ∧ NoClash ws ∧ ws.length ≤ 1000 ∧ fills.length ≤ 900 ∧ InB cuts.length fills.length ws ∧ ∀ p, C (.own p ((bndL cuts.length fills.length ws).map bndD))
theorem rd_bounds : ∀ ds C, ds.length = 3 → g_bounds ds C → T_bounds g_refuse_clash g_least_ahead g_most_ahead { nx := fun _ => C (.val .non), rt := fun c _ => C c } (startA N_bounds ds) := by
  rintro ds C - ⟨d, cuts, e, fills, k, ws, rfl, hd, he, hk, hn, hl, hfl, hb, hC⟩
  have h2 : (2 : Nat) ≤ sizeLine := by decide
  have key : lcW [3] (hName 3) pYes (pTup (pCons (pFrz (pCallA 2 g_least_ahead (pCons (pVar 2) (pCons (pVar 3) pNil)))) (pCons (pFrz (pCallA 3 g_most_ahead (pCons (pVar 0) (pCons (pVar 2) (pCons (pVar 3) pNil))))) pNil))) (fun acc ρ2 => ∀ p, C (.own p acc)) (rangeD 0 fills.length) [] [some (.val d), some (.val e), some (.val k), none] := by
    rw [rangeD_map]
    refine lcW_ints (h := fun f => bndD (loN ws f.toNat, hiN cuts.length ws f.toNat)) (fun x hx K hK => ?_) (by rw [List.length_map, List.length_range]; omega) (fun p => ?_)
    · obtain ⟨f, hf, rfl⟩ := mem_rng hx
      refine ⟨rfl, k, ws, f, rfl, hk, hl, rfl, d, cuts, k, ws, f, rfl, hd, hk, hl, fun w hw => (hb w hw).1, h2, hK _ rfl⟩
    · have := hC p
      unfold bndL at this
      rw [List.map_map] at this ⊢
      rw [← List.range_eq_range'] at this
      exact this
  have r1 : (-(2 ^ 62) : Int) ≤ (((dI fills).length : Nat) : Int) := by rw [ints_len]; omega
  have r2 : (((dI fills).length : Nat) : Int) < 2 ^ 62 := by rw [ints_len]; omega
  have r3 : (((dI fills).length : Nat) : Int).toNat = fills.length := by rw [ints_len]; omega
  refine ⟨rfl, k, ws, rfl, hk, hn, hl, ?_⟩
  rcases he with rfl | rfl
  · exact ⟨r1, r2, by rw [r3]; exact key⟩
  · exact ⟨r1, r2, by rw [r3]; exact key⟩
end Pl
namespace Pl
open PySem PySem.Spec PyProof.Rows L2
theorem str_ext {a b : Str} (h : a.cps.toList = b.cps.toList) : a = b := by
  obtain ⟨x⟩ := a
  obtain ⟨y⟩ := b
  have : x = y := Array.toList_inj.mp h
  rw [this]
theorem lit_c : ("c" : Str) = ⟨#[99]⟩ := by decide +kernel
theorem mul_c (n : Nat) : Txt.mul ("c" : Str) ((n : Nat) : Int) = txt (List.replicate n true) := by
  refine str_ext ?_
  rw [lit_c, mul_one_list]
  show List.replicate (Int.toNat (n : Int)) 99 = (List.replicate n true).map sg
  rw [List.map_replicate, Int.toNat_natCast]; rfl
end Pl
namespace Pl
open PySem PySem.Spec PyProof.Rows L2
theorem downD_succ (k : Nat) : downD (k + 1) = .int (k : Int) :: downD k := by
  unfold downD
  rw [List.range_succ_eq_map, List.map_cons, List.map_map]
  congr 1
  · show D.int (((k + 1 : Nat) : Int) - 1 - ((0 : Nat) : Int)) = .int (k : Int)
    congr 1; omega
  · apply List.map_congr_left
    intro i _
    show D.int (((k + 1 : Nat) : Int) - 1 - ((i + 1 : Nat) : Int)) = .int ((k : Int) - 1 - (i : Int))
    congr 1; omega
def g_ways_ahead : FA := fun ds C => ∃ row lo hi, ds = [.lst (dI row), .int ((lo : Nat) : Int), .int ((hi : Nat) : Int)] ∧ row.length ≤ 1000 ∧ C (.val (.lst (dI (wayL lo hi 0 row))))
theorem rd_ways_ahead : ∀ ds C, ds.length = 3 → g_ways_ahead ds C → T_ways_ahead { nx := fun _ => C (.val .non), rt := fun c _ => C c } (startA N_ways_ahead ds) := by
  rintro ds C - ⟨row, lo, hi, rfl, hl, hC⟩
  refine ⟨by show (0 : Nat) ≤ sizeLine; decide, fun b => ?_⟩
  refine ⟨row.length, by show (((dI row).length : Nat) : Int) = _; rw [ints_len], by omega, ?_⟩
  refine for_inv (fun ds ρ => ∃ (k : Nat) (w : Option Cell), ds = downD k ∧ k ≤ row.length ∧ ρ = [some (.val (.lst (dI row))), some (.val (.int (lo : Int))), some (.val (.int (hi : Int))), some (.own b (dI (wayL lo hi k (row.drop k)).reverse)), some (.val (.int ((wayL lo hi k (row.drop k)).headD 0))), w]) (fun x r ρ K hK hI => ?_) (fun ρ hI => ?_) _ _ ⟨row.length, none, rfl, Nat.le_refl _, by rw [List.drop_length]; rfl⟩
  · obtain ⟨k, w, e1, hk, rfl⟩ := hI
    cases k with
    | zero => cases e1
    | succ k =>
      rw [downD_succ] at e1
      cases e1
      have hk' : k < row.length := by omega
      have ed : row.drop k = row.getD k 0 :: row.drop (k + 1) := by
        rw [List.drop_eq_getElem_cons hk', List.getD_eq_getElem?_getD, List.getElem?_eq_getElem hk']; rfl
      have ew : wayL lo hi k (row.drop k) = ((if lo ≤ k ∧ k ≤ hi then row.getD k 0 else 0) + (wayL lo hi (k + 1) (row.drop (k + 1))).headD 0) :: wayL lo hi (k + 1) (row.drop (k + 1)) := by
        rw [ed]; rfl
      have hz : (dI (wayL lo hi (k + 1) (row.drop (k + 1))).reverse).length < sizeLine := small1000 (by rw [ints_len, List.length_reverse, wayL_len, List.length_drop]; omega)
      have fin : ∀ v : Int, v = (if lo ≤ k ∧ k ≤ hi then row.getD k 0 else 0) + (wayL lo hi (k + 1) (row.drop (k + 1))).headD 0 → K [some (.val (.lst (dI row))), some (.val (.int (lo : Int))), some (.val (.int (hi : Int))), some (.own b (dI (wayL lo hi (k + 1) (row.drop (k + 1))).reverse ++ [.int v])), some (.val (.int v)), some (.val (.int (k : Int)))] := by
        intro v hv
        refine hK _ ⟨k, some (.val (.int (k : Int))), rfl, by omega, ?_⟩
        rw [ew, ← hv, List.reverse_cons]
        show _ = [some (Cell.val (.lst (dI row))), some (.val (.int (lo : Int))), some (.val (.int (hi : Int))), some (.own b (dI ((wayL lo hi (k + 1) (row.drop (k + 1))).reverse ++ [v]))), some (.val (.int v)), some (.val (.int (k : Int)))]
        unfold dI; rw [List.map_append]; rfl
      refine ifB (fun h => ?_) (fun h => ?_)
      · rw [bl_le] at h
        refine ifB (fun h' => ?_) (fun h' => ?_)
        · rw [bl_le] at h'
          refine ⟨_, rfl, _, atI_get hk', _, rfl, hz, fin _ ?_⟩
          rw [if_pos ⟨dT h, dT h'⟩]; exact Int.add_comm _ _
        · rw [bl_le] at h'
          refine ⟨_, rfl, hz, fin _ ?_⟩
          rw [if_neg (fun z => dF h' z.2)]; omega
      · rw [bl_le] at h
        refine ⟨_, rfl, hz, fin _ ?_⟩
        rw [if_neg (fun z => dF h z.1)]; omega
  · obtain ⟨k, w, e1, hk, rfl⟩ := hI
    cases k with
    | succ k => rw [downD_succ] at e1; cases e1
    | zero =>
      show C (.val (.lst (dI (wayL lo hi 0 (row.drop 0)).reverse).reverse))
      unfold dI
      rw [← List.map_reverse, List.reverse_reverse]
      exact hC
def stackL (m : Nat) : List (Nat × Nat) → List (List Int)
  | [] => [baseL m]
  | b :: bs => stackL m bs ++ [rowsL m (b :: bs)]
theorem stack_last (m : Nat) : ∀ bs : List (Nat × Nat), ∃ r, stackL m bs = r ++ [rowsL m bs]
  | [] => ⟨[], rfl⟩
  | b :: bs => ⟨stackL m bs, rfl⟩
theorem stack_len (m : Nat) : ∀ bs : List (Nat × Nat), (stackL m bs).length = bs.length + 1
  | [] => rfl
  | b :: bs => by simp [stackL, stack_len m bs]
def lD (l : List Int) : D := .lst (dI l)
def g_ways_on : FA := fun ds C => ∃ d cuts e fills k ws, ds = [d, e, k] ∧ Sq d cuts ∧ Sq e fills ∧ Ws k ws ∧ NoClash ws ∧ ws.length ≤ 1000 ∧ cuts.length ≤ 900 ∧ fills.length ≤ 900 ∧ InB cuts.length fills.length ws ∧ C (.val (.lst ((stackL cuts.length (bndL cuts.length fills.length ws)).reverse.map lD)))
theorem rd_ways_on : ∀ ds C, ds.length = 3 → g_ways_on ds C → T_ways_on g_bounds g_ways_ahead { nx := fun _ => C (.val .non), rt := fun c _ => C c } (startA N_ways_on ds) := by
  rintro ds C - ⟨d, cuts, e, fills, k, ws, rfl, hd, he, hk, hn, hl, hcl, hfl, hb, hC⟩
  have hbl : (bndL cuts.length fills.length ws).length = fills.length := by simp [bndL]
  have loop : ∀ (b : Addr), forW (hTup 2 (hCons (hName 4) (hCons (hName 5) hNil))) (pAppend 3 (pFrz (pCallA 3 g_ways_ahead (pCons (pIxO 3 (pUn fNeg (pC (.int 1)))) (pCons (pVar 4) (pCons (pVar 5) pNil)))))) { nx := fun ρ => pRet (pVal (pUn fRev (pVar 3))) { nx := fun _ => C (.val .non), rt := fun c _ => C c } ρ, rt := fun c _ => C c } (((bndL cuts.length fills.length ws).map bndD).reverse) [some (.val d), some (.val e), some (.val k), some (.own b [lD (baseL cuts.length)]), none, none] := by
    intro b
    refine for_inv (fun ds ρ => ∃ (pre bs : List (Nat × Nat)) (w4 w5 : Option Cell), ds = (pre.map bndD).reverse ∧ bndL cuts.length fills.length ws = pre ++ bs ∧ ρ = [some (.val d), some (.val e), some (.val k), some (.own b ((stackL cuts.length bs).map lD)), w4, w5]) (fun x r ρ K hK hI => ?_) (fun ρ hI => ?_) _ _ ⟨bndL cuts.length fills.length ws, [], none, none, rfl, by simp, rfl⟩
    · obtain ⟨pre, bs, w4, w5, e1, e2, rfl⟩ := hI
      rcases List.eq_nil_or_concat pre with rfl | ⟨pre', q, rfl⟩
      · cases e1
      · rw [List.concat_eq_append, List.map_append, List.reverse_append] at e1
        rw [List.concat_eq_append] at e2
        cases e1
        obtain ⟨r0, hr0⟩ := stack_last cuts.length bs
        have hlen : pre'.length + 1 + bs.length = fills.length := by rw [← hbl, e2]; simp; omega
        have hlast : atI ((stackL cuts.length bs).map lD) (-1) = some (lD (rowsL cuts.length bs)) := by
          rw [hr0, List.map_append]; exact atI_last _ _
        refine ⟨rfl, rfl, _, _, _, rfl, rfl, hlast, rfl, rowsL cuts.length bs, q.1, q.2, rfl, by rw [rowsL_len]; omega, _, rfl, small1000 (by rw [List.length_map, stack_len]; omega), ?_⟩
        refine hK _ ⟨pre', q :: bs, some (.val (.int (q.1 : Int))), some (.val (.int (q.2 : Int))), rfl, by rw [e2]; simp, ?_⟩
        show _ = [some (Cell.val d), some (.val e), some (.val k), some (.own b ((stackL cuts.length bs ++ [rowsL cuts.length (q :: bs)]).map lD)), some (.val (.int (q.1 : Int))), some (.val (.int (q.2 : Int)))]
        rw [List.map_append]; rfl
    · obtain ⟨pre, bs, w4, w5, e1, e2, rfl⟩ := hI
      have : pre = [] := by
        cases pre with
        | nil => rfl
        | cons q pre => simp at e1
      subst this
      rw [List.nil_append] at e2
      show C (.val (.lst ((stackL cuts.length bs).map lD).reverse))
      rw [← List.map_reverse, ← e2]
      exact hC
  have e0 : (List.replicate (((((dI cuts).length : Nat) : Int) + 1).toNat) [D.int 1]).flatten ++ [.int 0] = dI (baseL cuts.length) := by
    rw [ints_len, show (((cuts.length : Nat) : Int) + 1).toNat = cuts.length + 1 by omega]
    unfold baseL dI
    rw [List.map_append, List.map_replicate]
    congr 1
    generalize cuts.length + 1 = n
    induction n with
    | zero => rfl
    | succ n ih => rw [List.replicate_succ, List.flatten_cons, ih]; rfl
  have h1 : (1 : Nat) ≤ sizeLine := by decide
  have rest : ∀ (x : List D), x = dI (baseL cuts.length) → ∀ b, pFor (jSeq (pUn fRev (pFrz (pCallA 3 g_bounds (pCons (pVar 0) (pCons (pVar 1) (pCons (pVar 2) pNil))))))) (hTup 2 (hCons (hName 4) (hCons (hName 5) hNil))) (pAppend 3 (pFrz (pCallA 3 g_ways_ahead (pCons (pIxO 3 (pUn fNeg (pC (.int 1)))) (pCons (pVar 4) (pCons (pVar 5) pNil)))))) { nx := fun ρ => pRet (pVal (pUn fRev (pVar 3))) { nx := fun _ => C (.val .non), rt := fun c _ => C c } ρ, rt := fun c _ => C c } [some (.val d), some (.val e), some (.val k), some (.own b [.lst x]), none, none] := by
    intro x hx b
    subst hx
    exact ⟨rfl, d, cuts, e, fills, k, ws, rfl, hd, he, hk, hn, hl, hfl, hb, fun p => loop b⟩
  have k0 : (0 : Int) ≤ (((dI cuts).length : Nat) : Int) + 1 := by omega
  have k1 : (((dI cuts).length : Nat) : Int) + 1 ≤ 1000 := by rw [ints_len]; omega
  have k2 : ((List.replicate (((((dI cuts).length : Nat) : Int) + 1).toNat) [D.int 1]).flatten).length + 1 ≤ sizeLine := by
    have := congrArg List.length e0
    rw [List.length_append] at this
    have e : (dI (baseL cuts.length)).length = cuts.length + 2 := by rw [ints_len]; simp [baseL]
    rw [e] at this
    have this : _ + 1 = cuts.length + 2 := this
    exact sl1000 (by omega)
  rcases hd with rfl | rfl
  · exact ⟨h1, k0, k1, by show (1 : Nat) ≤ 1000; decide, h1, k2, h1, fun b => rest _ e0 b⟩
  · exact ⟨h1, k0, k1, by show (1 : Nat) ≤ 1000; decide, h1, k2, h1, fun b => rest _ e0 b⟩
def g_orders_many : FA := fun ds C => ∃ d cuts e fills k ws, ds = [d, e, k] ∧ Sq d cuts ∧ Sq e fills ∧ Ws k ws ∧ NoClash ws ∧ ws.length ≤ 1000 ∧ cuts.length ≤ 900 ∧ fills.length ≤ 900 ∧ InB cuts.length fills.length ws ∧ C (.val (.int (manyL cuts.length (bndL cuts.length fills.length ws))))
theorem rd_orders_many : ∀ ds C, ds.length = 3 → g_orders_many ds C → T_orders_many g_ways_on { nx := fun _ => C (.val .non), rt := fun c _ => C c } (startA N_orders_many ds) := by
  rintro ds C - ⟨d, cuts, e, fills, k, ws, rfl, hd, he, hk, hn, hl, hcl, hfl, hb, hC⟩
  obtain ⟨r0, hr0⟩ := stack_last cuts.length (bndL cuts.length fills.length ws)
  have h0 : atI ((stackL cuts.length (bndL cuts.length fills.length ws)).reverse.map lD) 0 = some (lD (rowsL cuts.length (bndL cuts.length fills.length ws))) := by
    rw [hr0, List.reverse_append]; exact atI_zero _ _
  have hlen := rowsL_len cuts.length (bndL cuts.length fills.length ws)
  have h1 : atI (dI (rowsL cuts.length (bndL cuts.length fills.length ws))) 0 = some (.int (manyL cuts.length (bndL cuts.length fills.length ws))) := by
    unfold manyL
    cases hrow : rowsL cuts.length (bndL cuts.length fills.length ws) with
    | nil => rw [hrow] at hlen; simp at hlen
    | cons x r => exact atI_zero _ _
  exact ⟨rfl, d, cuts, e, fills, k, ws, rfl, hd, he, hk, hn, hl, hcl, hfl, hb, _, h0, _, h1, hC⟩
end Pl
namespace Pl
open PySem PySem.Spec PyProof.Rows L2
structure Bk (d : D) (cuts : List Int) (e : D) (fills : List Int) (k : D) (ws : List Wo) : Prop where
  c : Sq d cuts
  f : Sq e fills
  w : Ws k ws
  no : NoClash ws
  l : ws.length ≤ 1000
  cl : cuts.length ≤ 400
  fl : fills.length ≤ 400
  b : InB cuts.length fills.length ws
theorem bnd_len (m n : Nat) (ws : List Wo) : (bndL m n ws).length = n := by simp [bndL]
theorem hiL_len (m n : Nat) (ws : List Wo) : (hiL m n ws).length = n := by simp [hiL]
theorem loL_len (n : Nat) (ws : List Wo) : (loL n ws).length = n := by simp [loL]
def stL (l cuts fills : List Int) (o : List Bool) : List Int := behindL l (almL cuts fills 0 0 o)
def loSt (l cuts fills : List Int) (ws : List Wo) : List Int := stL l cuts fills (ordW 0 (hiL cuts.length fills.length ws) cuts.length)
def hiSt (l cuts fills : List Int) (ws : List Wo) : List Int := stL l cuts fills (ordW 0 (loL fills.length ws) cuts.length)
def sureL (k : Nat) : List Int → List Int → List Int
  | x :: a, y :: b => if x = y then (k : Int) :: sureL (k + 1) a b else sureL (k + 1) a b
  | _, _ => []
end Pl
namespace Pl
open PySem PySem.Spec PyProof.Rows L2
def Pos0 (l : List Int) : Prop := ∀ x ∈ l, 0 ≤ x
theorem Pos0.snoc {l : List Int} {x : Int} (h : Pos0 l) (hx : 0 ≤ x) : Pos0 (l ++ [x]) := fun y hy => by
  rcases List.mem_append.mp hy with hy | hy
  · exact h y hy
  · rw [List.mem_singleton.mp hy]; exact hx
theorem Pos0.take {l : List Int} (h : Pos0 l) (n : Nat) : Pos0 (l.take n) := fun y hy => h y (List.mem_of_mem_take hy)
end Pl
namespace Pl
theorem ord_dom {cuts fills : List Int} (hc : Pos0 cuts) (hf : Pos0 fills) (l : List Int) {m : Nat} {as bs : List Nat} (ha : Rise m 0 as) (hb : Rise m 0 bs) (hl : as.length = bs.length) (h : ∀ f x y : Nat, as[f]? = some x → bs[f]? = some y → y ≤ x) : Lq (stL l cuts fills (ordW 0 as m)) (stL l cuts fills (ordW 0 bs m)) := by
  refine dom_le hc hf l _ _ _ (Nat.le_refl _) ⟨?_, ?_, fun j x y h1 h2 => ?_⟩
  · rw [ordW_cT ha, ordW_cT hb]; exact Nat.le_refl _
  · rw [ordW_cF, ordW_cF, hl]; exact Nat.le_refl _
  · rw [ordW_ahead ha] at h1
    rw [ordW_ahead hb] at h2
    exact h j x y h1 h2
section
variable {cuts fills l : List Int} {ws vs : List Wo}
structure Has (cuts fills : List Int) (o : List Bool) (ws : List Wo) : Prop where
  t : cT o = cuts.length
  f : cF o = fills.length
  b : InB cuts.length fills.length ws
  h : ∀ w ∈ ws, hasW (aheadL 0 o) w = true
theorem Has.rise {o : List Bool} (H : Has cuts fills o ws) : Rise cuts.length 0 (aheadL 0 o) := by
  have := rise_ahead o 0
  rw [Nat.zero_add, H.t] at this
  exact this
theorem Has.len {o : List Bool} (H : Has cuts fills o ws) : (aheadL 0 o).length = fills.length := by rw [aheadL_len, H.f]
theorem Has.no {o : List Bool} (H : Has cuts fills o ws) : NoClash ws := fun u hu v hv => has_noclash H.rise (by rw [H.len]; exact (H.b u hu).2) (by rw [H.len]; exact (H.b v hv).2) (H.h u hu) (H.h v hv)
theorem Has.btw {o : List Bool} (H : Has cuts fills o ws) {f x : Nat} (hx : (aheadL 0 o)[f]? = some x) : loN ws f ≤ x ∧ x ≤ hiN cuts.length ws f := has_between H.rise (by rw [H.len]; exact H.b) H.h hx
theorem Has.ord {o : List Bool} (H : Has cuts fills o ws) : ordW 0 (aheadL 0 o) cuts.length = o := by
  have := ord_of o 0
  rw [Nat.zero_add, H.t] at this
  exact this
theorem Has.lo {o : List Bool} (H : Has cuts fills o ws) (hc : Pos0 cuts) (hf : Pos0 fills) : Lq (loSt l cuts fills ws) (stL l cuts fills o) := by
  rw [← H.ord]
  refine ord_dom hc hf l (hiL_rise _ _ _) H.rise (by rw [hiL_len, H.len]) fun f x y h1 h2 => ?_
  rw [(get_hi h1).1]
  exact (H.btw h2).2
theorem Has.hi {o : List Bool} (H : Has cuts fills o ws) (hc : Pos0 cuts) (hf : Pos0 fills) : Lq (stL l cuts fills o) (hiSt l cuts fills ws) := by
  rw [← H.ord]
  refine ord_dom hc hf l H.rise (loL_rise H.b) (by rw [loL_len, H.len]) fun f x y h1 h2 => ?_
  rw [(get_lo h2).1]
  exact (H.btw h1).1
theorem Has.sub {o : List Bool} (H : Has cuts fills o vs) (h : ∀ w ∈ ws, w ∈ vs) : Has cuts fills o ws := ⟨H.t, H.f, fun w hw => H.b w (h w hw), fun w hw => H.h w (h w hw)⟩
end
end Pl
namespace Pl
open PySem PySem.Spec PyProof.Rows L2
def allO : Nat → Nat → List (List Bool)
  | 0, f => [List.replicate f false]
  | c + 1, 0 => [List.replicate (c + 1) true]
  | c + 1, f + 1 => (allO c (f + 1)).map (true :: ·) ++ (allO (c + 1) f).map (false :: ·)
termination_by c f => c + f
theorem ct_repF : ∀ f, cT (List.replicate f false) = 0 ∧ cF (List.replicate f false) = f
  | 0 => ⟨rfl, rfl⟩
  | f + 1 => by
    obtain ⟨h1, h2⟩ := ct_repF f
    rw [List.replicate_succ]
    exact ⟨h1, by show cF (List.replicate f false) + 1 = f + 1; rw [h2]⟩
theorem ct_repT : ∀ c, cT (List.replicate c true) = c ∧ cF (List.replicate c true) = 0
  | 0 => ⟨rfl, rfl⟩
  | c + 1 => by
    obtain ⟨h1, h2⟩ := ct_repT c
    rw [List.replicate_succ]
    exact ⟨by show cT (List.replicate c true) + 1 = c + 1; rw [h1], h2⟩
theorem only_F : ∀ {o : List Bool}, cT o = 0 → o = List.replicate (cF o) false
  | [], _ => rfl
  | true :: o, h => by exact absurd (show cT o + 1 = 0 from h) (by omega)
  | false :: o, h => by
    show false :: o = List.replicate (cF o + 1) false
    rw [List.replicate_succ, ← only_F (o := o) h]
theorem only_T : ∀ {o : List Bool}, cF o = 0 → o = List.replicate (cT o) true
  | [], _ => rfl
  | false :: o, h => by exact absurd (show cF o + 1 = 0 from h) (by omega)
  | true :: o, h => by
    show true :: o = List.replicate (cT o + 1) true
    rw [List.replicate_succ, ← only_T (o := o) h]
theorem mem_allO : ∀ (n c f : Nat), c + f ≤ n → ∀ o, o ∈ allO c f ↔ cT o = c ∧ cF o = f
  | n, 0, f, _, o => by
    rw [allO, List.mem_singleton]
    constructor
    · rintro rfl; exact ct_repF f
    · rintro ⟨h1, h2⟩; rw [← h2]; exact only_F h1
  | n, c + 1, 0, _, o => by
    rw [allO, List.mem_singleton]
    constructor
    · rintro rfl; exact ct_repT (c + 1)
    · rintro ⟨h1, h2⟩; rw [← h1]; exact only_T h2
  | n + 1, c + 1, f + 1, h, o => by
    rw [allO, List.mem_append, List.mem_map, List.mem_map]
    constructor
    · rintro (⟨r, hr, rfl⟩ | ⟨r, hr, rfl⟩)
      · obtain ⟨h1, h2⟩ := (mem_allO n c (f + 1) (by omega) r).mp hr
        exact ⟨by show cT r + 1 = c + 1; rw [h1], h2⟩
      · obtain ⟨h1, h2⟩ := (mem_allO n (c + 1) f (by omega) r).mp hr
        exact ⟨h1, by show cF r + 1 = f + 1; rw [h2]⟩
    · rintro ⟨h1, h2⟩
      cases o with
      | nil => exact absurd (show (0 : Nat) = c + 1 from h1) (by omega)
      | cons b r =>
        cases b with
        | true => exact .inl ⟨r, (mem_allO n c (f + 1) (by omega) r).mpr ⟨Nat.succ.inj h1, h2⟩, rfl⟩
        | false => exact .inr ⟨r, (mem_allO n (c + 1) f (by omega) r).mpr ⟨h1, Nat.succ.inj h2⟩, rfl⟩
  | 0, c + 1, f + 1, h, _ => by omega
theorem allO_len : ∀ (n c f : Nat), c + f ≤ n → (allO c f).length ≤ 2 ^ (c + f)
  | n, 0, f, _ => by rw [allO]; exact Nat.one_le_two_pow
  | n, c + 1, 0, _ => by rw [allO]; exact Nat.one_le_two_pow
  | n + 1, c + 1, f + 1, h => by
    rw [allO, List.length_append, List.length_map, List.length_map]
    have h1 := allO_len n c (f + 1) (by omega)
    have h2 := allO_len n (c + 1) f (by omega)
    have e1 : c + (f + 1) = c + f + 1 := by omega
    have e2 : c + 1 + f = c + f + 1 := by omega
    have e3 : c + 1 + (f + 1) = c + f + 1 + 1 := by omega
    rw [e1] at h1; rw [e2] at h2; rw [e3, Nat.pow_succ]
    omega
  | 0, c + 1, f + 1, h => by omega
theorem getD_hiL {m n : Nat} {ws : List Wo} {f : Nat} (h : f < n) : (hiL m n ws).getD f 0 = hiN m ws f := by
  unfold hiL
  rw [List.getD_eq_getElem?_getD, List.getElem?_map, List.getElem?_range' h]
  simp
theorem getD_loL {n : Nat} {ws : List Wo} {f : Nat} (h : f < n) : (loL n ws).getD f 0 = loN ws f := by
  unfold loL
  rw [List.getD_eq_getElem?_getD, List.getElem?_map, List.getElem?_range' h]
  simp
section
variable {cuts fills : List Int} {ws : List Wo}
theorem Has.low {o : List Bool} (H : Has cuts fills o ws) : Has cuts fills (ordW 0 (hiL cuts.length fills.length ws) cuts.length) ws := by
  have hr := hiL_rise cuts.length fills.length ws
  refine ⟨by rw [ordW_cT hr]; rfl, by rw [ordW_cF, hiL_len], H.b, fun w hw => ?_⟩
  rw [ordW_ahead hr]
  unfold hasW
  have hb := H.b w hw
  rw [getD_hiL hb.2]
  obtain ⟨k, c, f⟩ := w
  cases k with
  | true =>
    have : c < hiN cuts.length ws f := hi_ge.mpr ⟨hb.1, fun v hv h1 h2 => by
      have := H.no (true, c, f) hw v hv
      obtain ⟨k', c', f'⟩ := v
      have h1 : k' = false := h1
      subst h1
      have h2 : f ≤ f' := h2
      have : (decide (c' ≤ c) && decide (f ≤ f')) = false := this
      show c + 1 ≤ c'
      rw [decide_eq_true h2, Bool.and_true] at this
      have := of_decide_eq_false this
      omega⟩
    show (true == decide (c < hiN cuts.length ws f)) = true
    rw [decide_eq_true this]; rfl
  | false =>
    have : hiN cuts.length ws f ≤ c := (hi_ge.mp (Nat.le_refl _)).2 (false, c, f) hw rfl (Nat.le_refl _)
    show (false == decide (c < hiN cuts.length ws f)) = true
    rw [decide_eq_false (by omega)]; rfl
theorem Has.top {o : List Bool} (H : Has cuts fills o ws) : Has cuts fills (ordW 0 (loL fills.length ws) cuts.length) ws := by
  have hr := loL_rise H.b
  refine ⟨by rw [ordW_cT hr]; rfl, by rw [ordW_cF, loL_len], H.b, fun w hw => ?_⟩
  rw [ordW_ahead hr]
  unfold hasW
  have hb := H.b w hw
  rw [getD_loL hb.2]
  obtain ⟨k, c, f⟩ := w
  cases k with
  | true =>
    have : c + 1 ≤ loN ws f := lo_le.mp (Nat.le_refl _) (true, c, f) hw rfl (Nat.le_refl _)
    show (true == decide (c < loN ws f)) = true
    rw [decide_eq_true (by omega)]; rfl
  | false =>
    have : loN ws f ≤ c := lo_le.mpr fun v hv h1 h2 => by
      have := H.no (false, c, f) hw v hv
      obtain ⟨k', c', f'⟩ := v
      have h1 : k' = true := h1
      subst h1
      have h2 : f' ≤ f := h2
      have : (decide (c ≤ c') && decide (f' ≤ f)) = false := this
      show c' + 1 ≤ c
      rw [decide_eq_true h2, Bool.and_true] at this
      have := of_decide_eq_false this
      omega
    show (false == decide (c < loN ws f)) = true
    rw [decide_eq_false (by omega)]; rfl
end
end Pl
namespace Pl
open PySem PySem.Spec PyProof.Rows L2
def Pw (ws : List Wd) : Prop := ∀ w ∈ ws, 0 ≤ w.2
theorem Pw.take {ws : List Wd} (h : Pw ws) (j : Nat) : Pw (ws.take j) := fun w hw => h w (List.mem_of_mem_take hw)
theorem Pw.drop {ws : List Wd} (h : Pw ws) (j : Nat) : Pw (ws.drop j) := fun w hw => h w (List.mem_of_mem_drop hw)
theorem Pw.one {w : Wd} (h : 0 ≤ w.2) : Pw [w] := fun v hv => by rw [List.mem_singleton.mp hv]; exact h
end Pl
namespace Pl
open PySem PySem.Spec PyProof.Rows L2
mutual
def toL : D → D
  | .lst xs => .lst (toLs xs)
  | .tup xs => .lst (toLs xs)
  | .non => .non
  | .bl b => .bl b
  | .int i => .int i
  | .str z => .str z
  | .scr ns => .scr ns
  | .adr a => .adr a
  | .exc c y => .exc c y
def toLs : List D → List D
  | [] => []
  | x :: xs => toL x :: toLs xs
end
theorem toLs_map : ∀ xs : List D, toLs xs = xs.map toL
  | [] => by rw [toLs]; rfl
  | x :: xs => by rw [toLs, toLs_map xs]; rfl
def gL : Nat → FA
  | 0 => fun _ _ => False
  | n + 1 => fun ds C => ∃ d, ds = [d] ∧ okN n d ∧ C (.val (toL d))
theorem rd_lists (n : Nat) : ∀ ds C, ds.length = 1 → gL (n + 1) ds C → T__law_lists (gL n) (EA C) (startA N__law_lists ds) := by
  rintro ds C - ⟨d, rfl, hd, hC⟩
  have seq : ∀ (q : D) (xs : List D), okN n (.lst xs) → C (.val (.lst (toLs xs))) → lcW [1] (hName 1) pYes (pFrz (pCallA 1 (gL n) (pCons (pVar 1) pNil))) (fun acc ρ2 => C (.val (.lst acc))) xs [] [some (.val q), none] := by
    intro q xs hx hQ
    cases n with
    | zero => exact hx.elim
    | succ n =>
      refine lc_mp xs id toL (by simp) (fun x hx' K hK => ⟨rfl, x, rfl, hx.2 x hx', hK _ rfl⟩) hx.1 ?_
      rw [← toLs_map]; exact hQ
  cases d with
  | lst xs => rw [toL] at hC; exact seq _ xs hd hC
  | tup xs =>
    rw [toL] at hC
    refine seq _ xs ?_ hC
    cases n with
    | zero => exact hd.elim
    | succ n => exact hd
  | scr ns => cases n <;> exact hd.elim
  | adr a => cases n <;> exact hd.elim
  | exc _ _ => cases n <;> exact hd.elim
  | non => exact hC
  | bl b => exact hC
  | int i => exact hC
  | str z => exact hC
theorem AmW.tup (ws : List Wd) : AmW (.tup (windsD ws)) ws := Am.w (.inr rfl)
end Pl
namespace Pl
open PySem PySem.Spec PyProof.Rows L2
def PwM (m : Int) (ws : List Wd) : Prop := ∀ w ∈ ws, 0 ≤ w.2 ∧ w.2 ≤ m
theorem PwM.take {m : Int} {ws : List Wd} (h : PwM m ws) (j : Nat) : PwM m (ws.take j) := fun w hw => h w (List.mem_of_mem_take hw)
theorem PwM.drop {m : Int} {ws : List Wd} (h : PwM m ws) (j : Nat) : PwM m (ws.drop j) := fun w hw => h w (List.mem_of_mem_drop hw)
theorem PwM.one {m : Int} {w : Wd} (h : 0 ≤ w.2 ∧ w.2 ≤ m) : PwM m [w] := fun v hv => by rw [List.mem_singleton.mp hv]; exact h
end Pl
namespace Pl
open PySem PySem.Spec PyProof.Rows L2
def PairsFree (ws : List Wo) (i j : Nat) : Prop := ∀ (a b : Nat) (u v : Wo), a < b → ws[a]? = some u → ws[b]? = some v → (a < i ∨ a = i ∧ b < j) → contr u v = false
structure CW (ws : List Wo) (i j : Nat) : Prop where
  lt : i < j
  ex : ∃ u v, ws[i]? = some u ∧ ws[j]? = some v ∧ contr u v = true
  free : PairsFree ws i j
def NoPair (ws : List Wo) : Prop := ∀ (a b : Nat) (u v : Wo), a < b → ws[a]? = some u → ws[b]? = some v → contr u v = false
theorem CW.not {ws : List Wo} {i j : Nat} (h : CW ws i j) : ¬ NoPair ws := fun n => by
  obtain ⟨u, v, h1, h2, h3⟩ := h.ex
  rw [n i j u v h.lt h1 h2] at h3; cases h3
theorem CW.one {ws : List Wo} {i j a b : Nat} (h : CW ws i j) (g : CW ws a b) : a = i ∧ b = j := by
  obtain ⟨u, v, h1, h2, h3⟩ := h.ex
  obtain ⟨u', v', g1, g2, g3⟩ := g.ex
  have p := h.free a b u' v' g.lt g1 g2
  have q := g.free i j u v h.lt h1 h2
  by_cases x : a < i ∨ a = i ∧ b < j
  · rw [p x] at g3; cases g3
  · by_cases y : i < a ∨ i = a ∧ j < b
    · rw [q y] at h3; cases h3
    · omega
end Pl
namespace Pl
open PySem PySem.Spec PyProof.Rows L2
def rankL (m : Nat) : List (Nat × Nat) → List Nat → Int
  | b :: bs, a :: as => (rowsL m (b :: bs)).getD (a + 1) 0 + rankL m bs as
  | _, _ => 0
theorem fits_weak {m : Nat} : ∀ {bs : List (Nat × Nat)} {as : List Nat} {d e : Nat}, d ≤ e → Fits2 m e bs as → Fits2 m d bs as
  | [], [], d, e, h, g => Nat.le_trans h g
  | b :: bs, a :: as, d, e, h, g => ⟨Nat.le_trans h g.1, g.2⟩
  | [], _ :: _, _, _, _, g => g.elim
  | _ :: _, [], _, _, _, g => g.elim
theorem rank_nonneg {m : Nat} : ∀ (bs : List (Nat × Nat)) (as : List Nat), 0 ≤ rankL m bs as
  | [], _ => Int.le_refl _
  | _ :: _, [] => Int.le_refl _
  | b :: bs, a :: as => by
    have h1 := rowL_nonneg m (b :: bs) (a + 1)
    have h2 := rank_nonneg (m := m) bs as
    show 0 ≤ (rowsL m (b :: bs)).getD (a + 1) 0 + rankL m bs as
    omega
theorem rank_lt {m : Nat} : ∀ {bs : List (Nat × Nat)} {as : List Nat} {d : Nat}, Fits2 m d bs as → rankL m bs as < (rowsL m bs).getD d 0
  | [], [], d, h => by
    show (0 : Int) < (baseL m).getD d 0
    rw [base_get, if_pos (show d ≤ m from h)]; omega
  | b :: bs, a :: as, d, h => by
    have h1 := rowL_later m b bs d a h.1
    have h2 := rowL_get m b bs a
    rw [if_pos ⟨h.2.1, h.2.2.1⟩] at h2
    have h3 := rank_lt h.2.2.2
    show (rowsL m (b :: bs)).getD (a + 1) 0 + rankL m bs as < _
    omega
  | [], _ :: _, _, h => h.elim
  | _ :: _, [], _, h => h.elim
theorem exists_rank {m : Nat} : ∀ (bs : List (Nat × Nat)) (d : Nat) (n : Int), 0 ≤ n → n < (rowsL m bs).getD d 0 → ∃ as, Fits2 m d bs as ∧ rankL m bs as = n
  | [], d, n, h0, h1 => by
    have h1 : n < (baseL m).getD d 0 := h1
    rw [base_get] at h1
    by_cases q : d ≤ m
    · rw [if_pos q] at h1
      exact ⟨[], q, by show (0 : Int) = n; omega⟩
    · rw [if_neg q] at h1; omega
  | b :: bs, d, n, h0, h1 => by
    have key : ∀ k d, m + 2 ≤ d + k → n < (rowsL m (b :: bs)).getD d 0 → ∃ as, Fits2 m d (b :: bs) as ∧ rankL m (b :: bs) as = n := by
      intro k
      induction k with
      | zero =>
        intro d hd h
        rw [rowL_out m (b :: bs) d (by omega)] at h; omega
      | succ k ih =>
        intro d hd h
        by_cases q : n < (rowsL m (b :: bs)).getD (d + 1) 0
        · obtain ⟨as, g1, g2⟩ := ih (d + 1) (by omega) q
          exact ⟨as, fits_weak (by omega) g1, g2⟩
        · have e := rowL_get m b bs d
          by_cases r : b.1 ≤ d ∧ d ≤ b.2
          · rw [if_pos r] at e
            obtain ⟨as, g1, g2⟩ := exists_rank (m := m) bs d (n - (rowsL m (b :: bs)).getD (d + 1) 0) (by omega) (by omega)
            refine ⟨d :: as, ⟨Nat.le_refl _, r.1, r.2, g1⟩, ?_⟩
            show (rowsL m (b :: bs)).getD (d + 1) 0 + rankL m bs as = n
            omega
          · rw [if_neg r] at e; omega
    exact key (m + 2) d (by omega) h1
end Pl
namespace Pl
open PySem PySem.Spec PyProof.Rows L2
theorem fits_rise {m : Nat} : ∀ {bs : List (Nat × Nat)} {as : List Nat} {d : Nat}, Fits2 m d bs as → Rise m d as
  | [], [], d, h => h
  | b :: bs, a :: as, d, h => ⟨h.1, fits_rise h.2.2.2⟩
  | [], _ :: _, _, h => h.elim
  | _ :: _, [], _, h => h.elim
theorem fits_len {m : Nat} : ∀ {bs : List (Nat × Nat)} {as : List Nat} {d : Nat}, Fits2 m d bs as → as.length = bs.length
  | [], [], d, h => rfl
  | b :: bs, a :: as, d, h => by rw [List.length_cons, List.length_cons, fits_len h.2.2.2]
  | [], _ :: _, _, h => h.elim
  | _ :: _, [], _, h => h.elim
theorem fits_get {m : Nat} : ∀ {bs : List (Nat × Nat)} {as : List Nat} {d f x : Nat} {b : Nat × Nat}, Fits2 m d bs as → as[f]? = some x → bs[f]? = some b → b.1 ≤ x ∧ x ≤ b.2
  | c :: bs, a :: as, d, 0, x, b, h, ha, hb => by
    have ha : a = x := by simpa using ha
    have hb : c = b := by simpa using hb
    subst ha hb
    exact ⟨h.2.1, h.2.2.1⟩
  | c :: bs, a :: as, d, f + 1, x, b, h, ha, hb => fits_get h.2.2.2 (by simpa using ha) (by simpa using hb)
  | [], [], d, f, x, b, h, ha, hb => by simp at ha
  | [], _ :: _, _, _, _, _, h, _, _ => h.elim
  | _ :: _, [], _, _, _, _, h, _, _ => h.elim
theorem fits_has {cuts fills : List Int} {ws : List Wo} {as : List Nat} (hb : InB cuts.length fills.length ws) (h : Fits2 cuts.length 0 (bndL cuts.length fills.length ws) as) : Has cuts fills (ordW 0 as cuts.length) ws := by
  have hr := fits_rise h
  have hl := fits_len h
  have hbl : (bndL cuts.length fills.length ws).length = fills.length := by simp [bndL]
  refine ⟨by rw [ordW_cT hr]; rfl, by rw [ordW_cF, hl, hbl], hb, fun w hw => ?_⟩
  rw [ordW_ahead hr]
  have hbw := hb w hw
  obtain ⟨k, c, f⟩ := w
  have hx : as[f]? = some (as.getD f 0) := by rw [List.getD_eq_getElem?_getD, List.getElem?_eq_getElem (by rw [hl, hbl]; exact hbw.2)]; rfl
  have hbf : (bndL cuts.length fills.length ws)[f]? = some (loN ws f, hiN cuts.length ws f) := by
    unfold bndL
    rw [List.getElem?_map, List.getElem?_range' hbw.2]; simp
  have hg := fits_get h hx hbf
  show (k == decide (c < as.getD f 0)) = true
  cases k with
  | true =>
    have := lo_le.mp (Nat.le_refl (loN ws f)) (true, c, f) hw rfl (Nat.le_refl f)
    have : c + 1 ≤ loN ws f := this
    rw [decide_eq_true (by have := hg.1; omega)]; rfl
  | false =>
    have := (hi_ge.mp (Nat.le_refl (hiN cuts.length ws f))).2 (false, c, f) hw rfl (Nat.le_refl f)
    have : hiN cuts.length ws f ≤ c := this
    rw [decide_eq_false (by have := hg.2; omega)]; rfl
end Pl
namespace Pl
open PySem PySem.Spec PyProof.Rows L2
def tellD (a b s : List Int) (m : Int) (bs : List (Nat × Nat)) : D := .tup [.tup [tD a, tD b], .lst (dI s), .int m, .lst (bs.map bndD)]
def toldD (l cuts fills : List Int) (ws : List Wo) : D := tellD (loSt l cuts fills ws) (hiSt l cuts fills ws) (sureL 0 (loSt l cuts fills ws) (hiSt l cuts fills ws)) (manyL cuts.length (bndL cuts.length fills.length ws)) (bndL cuts.length fills.length ws)
def g__law_told : FA := fun ds C => ∃ a l d cuts e fills k ws, ds = [a, d, e, k] ∧ Sq a l ∧ l ≠ [] ∧ l.length ≤ 1000 ∧ Bk d cuts e fills k ws ∧ C (.val (toldD l cuts fills ws))
end Pl
namespace Pl
open PySem PySem.Spec PyProof.Rows L2
theorem fits_up {m d : Nat} {B : List (Nat × Nat)} {r : List Bool} (hB : B ≠ []) (h : Fits2 m d B (aheadL (d + 1) r)) : Fits2 m (d + 1) B (aheadL (d + 1) r) := by
  cases B with
  | nil => exact absurd rfl hB
  | cons b bs =>
    cases e : aheadL (d + 1) r with
    | nil => rw [e] at h; exact h.elim
    | cons a as =>
      rw [e] at h
      have := (aheadL_le r (d + 1) a (by rw [e]; simp)).1
      exact ⟨this, h.2⟩
theorem pair_rank : ∀ (n c f : Nat), c + f ≤ n → ∀ (m d : Nat) (B : List (Nat × Nat)), B.length = f → (allO c f).Pairwise fun o o' => Fits2 m d B (aheadL d o) → Fits2 m d B (aheadL d o') → rankL m B (aheadL d o) < rankL m B (aheadL d o')
  | _, 0, f, _, m, d, B, _ => by rw [allO]; exact List.pairwise_singleton _ _
  | _, c + 1, 0, _, m, d, B, _ => by rw [allO]; exact List.pairwise_singleton _ _
  | 0, c + 1, f + 1, h, _, _, _, _ => by omega
  | n + 1, c + 1, f + 1, h, m, d, B, hB => by
    have hne : B ≠ [] := fun q => by rw [q] at hB; cases hB
    obtain ⟨b, bs, rfl⟩ : ∃ b bs, B = b :: bs := by cases B with | nil => exact absurd rfl hne | cons b bs => exact ⟨b, bs, rfl⟩
    rw [allO, List.pairwise_append]
    refine ⟨?_, ?_, ?_⟩
    · rw [List.pairwise_map]
      refine (pair_rank n c (f + 1) (by omega) m (d + 1) (b :: bs) hB).imp fun {x y} q h1 h2 => ?_
      exact q (fits_up hne h1) (fits_up hne h2)
    · rw [List.pairwise_map]
      refine (pair_rank n (c + 1) f (by omega) m d bs (by simpa using hB)).imp fun {x y} q h1 h2 => ?_
      have := q h1.2.2.2 h2.2.2.2
      show (rowsL m (b :: bs)).getD (d + 1) 0 + rankL m bs (aheadL d x) < (rowsL m (b :: bs)).getD (d + 1) 0 + rankL m bs (aheadL d y)
      omega
    · intro x hx y hy h1 h2
      obtain ⟨r, _, rfl⟩ := List.mem_map.mp hx
      obtain ⟨r', _, rfl⟩ := List.mem_map.mp hy
      have g1 : rankL m (b :: bs) (aheadL (d + 1) r) < (rowsL m (b :: bs)).getD (d + 1) 0 := rank_lt (fits_up hne h1)
      have g2 := rank_nonneg (m := m) bs (aheadL d r')
      show rankL m (b :: bs) (aheadL (d + 1) r) < (rowsL m (b :: bs)).getD (d + 1) 0 + rankL m bs (aheadL d r')
      omega
theorem sorted_ext : ∀ {a b : List Int}, a.Pairwise (· < ·) → b.Pairwise (· < ·) → (∀ x, x ∈ a ↔ x ∈ b) → a = b
  | [], [], _, _, _ => rfl
  | [], y :: b, _, _, h => by have := (h y).mpr (by simp); simp at this
  | x :: a, [], _, _, h => by have := (h x).mp (by simp); simp at this
  | x :: a, y :: b, ha, hb, h => by
    rw [List.pairwise_cons] at ha hb
    have e : x = y := by
      rcases List.mem_cons.mp ((h x).mp (by simp)) with q | q
      · exact q
      · have h1 := hb.1 x q
        rcases List.mem_cons.mp ((h y).mpr (by simp)) with r | r
        · exact r.symm
        · have h2 := ha.1 y r
          omega
    subst e
    rw [sorted_ext ha.2 hb.2 fun z => ?_]
    constructor
    · intro hz
      have h1 := ha.1 z hz
      rcases List.mem_cons.mp ((h z).mp (by simp [hz])) with q | q
      · omega
      · exact q
    · intro hz
      have h1 := hb.1 z hz
      rcases List.mem_cons.mp ((h z).mpr (by simp [hz])) with q | q
      · omega
      · exact q
theorem fits_of_has {cuts fills : List Int} {o : List Bool} {ws : List Wo} (H : Has cuts fills o ws) : Fits2 cuts.length 0 (bndL cuts.length fills.length ws) (aheadL 0 o) := by
  have hR := H.rise
  have hL := H.len
  have hb : ∀ (k : Nat) (as : List Nat) (d : Nat), Rise cuts.length d as → (∀ f x, as[f]? = some x → loN ws (k + f) ≤ x ∧ x ≤ hiN cuts.length ws (k + f)) → Fits2 cuts.length d ((List.range' k as.length).map fun f => (loN ws f, hiN cuts.length ws f)) as := by
    intro k as
    induction as generalizing k with
    | nil => intro d h _; exact h
    | cons a as ih =>
      intro d h hx
      have h0 := hx 0 a rfl
      exact ⟨h.1, h0.1, h0.2, ih (k + 1) a h.2 fun f x hf => by have := hx (f + 1) x hf; rw [show k + 1 + f = k + (f + 1) by omega]; exact this⟩
  have hF := hb 0 (aheadL 0 o) 0 hR fun f x hf => by rw [Nat.zero_add]; exact H.btw hf
  rw [hL] at hF
  exact hF
abbrev hasAll (ws : List Wo) (o : List Bool) : Bool := ws.all fun w => hasW (aheadL 0 o) w
theorem mem_fits {cuts fills : List Int} {ws : List Wo} (hb : InB cuts.length fills.length ws) {o : List Bool} : o ∈ (allO cuts.length fills.length).filter (hasAll ws) ↔ Has cuts fills o ws := by
  rw [List.mem_filter, mem_allO _ _ _ (Nat.le_refl _), hasAll, List.all_eq_true]
  exact ⟨fun h => ⟨h.1.1, h.1.2, hb, h.2⟩, fun h => ⟨⟨h.t, h.f⟩, h.h⟩⟩
theorem has_of_fits {cuts fills : List Int} {ws : List Wo} {as : List Nat} (hb : InB cuts.length fills.length ws) (h : Fits2 cuts.length 0 (bndL cuts.length fills.length ws) as) (hh : Has cuts fills (ordW 0 as cuts.length) ws) (hr : Rise cuts.length 0 as) : ordW 0 as cuts.length ∈ (allO cuts.length fills.length).filter (hasAll ws) ∧ aheadL 0 (ordW 0 as cuts.length) = as := ⟨(mem_fits hb).mpr hh, ordW_ahead hr⟩
end Pl
namespace Pl
open PySem PySem.Spec PyProof.Rows L2
section
variable {cuts fills : List Int} {ws : List Wo}
abbrev fitsL (m n : Nat) (ws : List Wo) : List (List Bool) := (allO m n).filter (hasAll ws)
abbrev rkO (m n : Nat) (ws : List Wo) (o : List Bool) : Int := rankL m (bndL m n ws) (aheadL 0 o)
theorem fits_sorted (hb : InB cuts.length fills.length ws) : ((fitsL cuts.length fills.length ws).map (rkO cuts.length fills.length ws)).Pairwise (· < ·) := by
  rw [List.pairwise_map]
  have h := (pair_rank _ cuts.length fills.length (Nat.le_refl _) cuts.length 0 (bndL cuts.length fills.length ws) (bnd_len _ _ _)).filter (hasAll ws)
  exact h.imp_of_mem fun {x y} hx hy q => q (fits_of_has ((mem_fits hb).mp hx)) (fits_of_has ((mem_fits hb).mp hy))
theorem many_rows (m n : Nat) (ws : List Wo) : manyL m (bndL m n ws) = (rowsL m (bndL m n ws)).getD 0 0 := by unfold manyL; rw [headD_getD]
theorem many_nonneg (m n : Nat) (ws : List Wo) : 0 ≤ manyL m (bndL m n ws) := by rw [many_rows]; exact rowL_nonneg _ _ _
theorem range_sorted (n : Nat) : ((List.range n).map fun (k : Nat) => (k : Int)).Pairwise (· < ·) := by
  rw [List.pairwise_map]
  exact List.pairwise_lt_range.imp fun h => Int.ofNat_lt.mpr h
theorem fits_ranks (hb : InB cuts.length fills.length ws) : (fitsL cuts.length fills.length ws).map (rkO cuts.length fills.length ws) = (List.range (manyL cuts.length (bndL cuts.length fills.length ws)).toNat).map fun (k : Nat) => (k : Int) := by
  have hN := many_nonneg cuts.length fills.length ws
  refine sorted_ext (fits_sorted hb) (range_sorted _) fun x => ?_
  rw [List.mem_map, List.mem_map]
  constructor
  · rintro ⟨o, ho, rfl⟩
    have H := (mem_fits hb).mp ho
    have h1 := rank_nonneg (m := cuts.length) (bndL cuts.length fills.length ws) (aheadL 0 o)
    have h2 := rank_lt (fits_of_has H)
    rw [← many_rows] at h2
    exact ⟨(rankL cuts.length (bndL cuts.length fills.length ws) (aheadL 0 o)).toNat, List.mem_range.mpr (by omega), by show ((_ : Nat) : Int) = rankL _ _ _; omega⟩
  · rintro ⟨k, hk, rfl⟩
    have hk := List.mem_range.mp hk
    obtain ⟨as, hA, hr⟩ := exists_rank (bndL cuts.length fills.length ws) 0 (k : Int) (by omega) (by rw [← many_rows]; omega)
    have := has_of_fits hb hA (fits_has hb hA) (fits_rise hA)
    exact ⟨_, this.1, by show rankL _ _ (aheadL 0 (ordW 0 as cuts.length)) = _; rw [this.2]; exact hr⟩
theorem fits_count (hb : InB cuts.length fills.length ws) : (((fitsL cuts.length fills.length ws).length : Nat) : Int) = manyL cuts.length (bndL cuts.length fills.length ws) := by
  have h := congrArg List.length (fits_ranks hb)
  rw [List.length_map, List.length_map, List.length_range] at h
  have := many_nonneg cuts.length fills.length ws
  omega
end
end Pl
namespace Pl
open PySem PySem.Spec PyProof.Rows L2 LamX
abbrev Fct := D → D → D → Str → Int → Bool → Prop
section
variable {T : List NdefX.NTab} {K : PySem.W.Frag} {G F H H' : Hp} {σ : L2.St} {ρ : Ro}
theorem Sim.same (S : @Sim (tjTab T) K G F H σ ρ) (e : Same H H') : @Sim (tjTab T) K G F H' σ ρ := by
  letI : TJ := tjTab T
  exact ⟨S.hF.trans e, S.hG.trans e, S.len, S.val, fun i a xs q => by
    obtain ⟨h1, h2, h3, vs, h4, h5⟩ := S.own i a xs q
    exact ⟨h1, h2, h3, vs, e _ _ h4, h5⟩, S.ne, S.bx.heap (.refl _) fun p m => let ⟨f, g, o, h⟩ := S.bx.free m; ⟨f, g, (e _ _ h).trans h.symm⟩⟩
end
end Pl
namespace Pl
open PySem PySem.Spec PyProof.Rows L2
abbrev Ze := Wd ⊕ (Int × Int)
def handS : Str := "hand"
def hzD (h : Int × Int) : D := .tup [.str handS, .int h.1, .int h.2]
def zD : Ze → D
  | .inl w => windD w.1 w.2
  | .inr h => hzD h
def zsD (es : List Ze) : List D := es.map zD
theorem zsD_len (es : List Ze) : (zsD es).length = es.length := List.length_map _
def isHz : Ze → Bool
  | .inl _ => false
  | .inr _ => true
def kindZ : Ze → Str
  | .inl w => wordS w.1
  | .inr _ => handS
def keepC (c : Bool) : Ze → Bool
  | .inl w => w.1 == c
  | .inr _ => true
abbrev keptZ (c : Bool) (es : List Ze) : List Ze := es.filter (keepC c)
abbrev handsZ (es : List Ze) : List Ze := es.filter isHz
def Zq (a : D) (es : List Ze) : Prop := a = .lst (zsD es) ∨ a = .tup (zsD es)
theorem sh_hand : (D.str "hand").sh := by unfold D.sh; decide +kernel
theorem sh_kindZ (e : Ze) : (D.str (kindZ e)).sh := by
  cases e with
  | inl w => exact sh_word _
  | inr h => exact sh_hand
theorem eqv_kindZ (e : Ze) : (D.str (kindZ e)).eqv (.str "hand") = isHz e := by
  cases e with
  | inl w => show (D.str (wordS w.1)).eqv (.str "hand") = false; cases w.1 <;> decide +kernel
  | inr h => show (D.str handS).eqv (.str "hand") = true; decide +kernel
theorem zD_at0 {C : D → Prop} (e : Ze) (h : C (.str (kindZ e))) : fIx (zD e) (.int 0) C := by
  cases e with
  | inl w => exact ⟨_, atI_nat (j := 0) rfl, h⟩
  | inr x => exact ⟨_, atI_nat (j := 0) rfl, h⟩
theorem canLay_z (e : Ze) : PyData.canLay0 (toPy (zD e)) = true := by
  cases e with
  | inl w => exact canLay_wind w
  | inr h => show (PyData.canLay0 (.str "hand") && true) = true; decide +kernel
theorem canLay_zs : ∀ es : List Ze, PyData.canLayAll0 (toPys (zsD es)) = true
  | [] => rfl
  | e :: es => by
    show (PyData.canLay0 (toPy (zD e)) && PyData.canLayAll0 (toPys (zsD es))) = true
    rw [canLay_zs es, canLay_z e]; rfl
theorem depth_zs : ∀ es : List Ze, PyData.depthAll (toPys (zsD es)) ≤ 1
  | [] => by decide
  | e :: es => by
    show max (PyData.depth (toPy (zD e))) (PyData.depthAll (toPys (zsD es))) ≤ 1
    have := depth_zs es
    have h : PyData.depth (toPy (zD e)) = 1 := by cases e <;> rfl
    omega
theorem sh_zs (es : List Ze) : (D.lst (zsD es)).sh := by
  show (PyData.canLayAll0 (toPys (zsD es)) && decide (PyData.depthAll (toPys (zsD es)) + 1 ≤ 64)) = true
  rw [canLay_zs]
  have := depth_zs es
  simp; omega
theorem zs_cut (es : List Ze) (j : Nat) : cutD (zsD es) (some (j : Int)) (some ((j : Int) + 1)) = zsD ((es.drop j).take 1) := by
  rw [show (j : Int) + 1 = ((j + 1 : Nat) : Int) by omega, cutD_mid (by omega), show j + 1 - j = 1 by omega]
  unfold zsD
  rw [← List.map_drop, ← List.map_take]
theorem eqv_of_lay {d : D} (h : PyData.canLay0 (toPy d) = true) : d.eqv d = true := PySem.SeqAt.eqv_refl _ h
theorem zs_eqv (es : List Ze) : (D.lst (zsD es)).eqv (.lst (zsD es)) = true := eqv_of_lay (canLay_zs es)
def strS : List Ze → List (List Int)
  | [] => [[]]
  | .inl w :: r => match strS r with
    | h :: t => (w.2 :: h) :: t
    | [] => []
  | .inr _ :: r => [] :: strS r
def hzs : List Ze → List (Int × Int)
  | [] => []
  | .inl _ :: r => hzs r
  | .inr h :: r => h :: hzs r
theorem strS_ne : ∀ es : List Ze, strS es ≠ []
  | [] => by simp [strS]
  | .inl w :: r => by
    have := strS_ne r
    unfold strS
    cases h : strS r with
    | nil => exact absurd h this
    | cons a b => simp
  | .inr h :: r => by simp [strS]
theorem strS_len : ∀ es : List Ze, (strS es).length = (hzs es).length + 1
  | [] => rfl
  | .inl w :: r => by
    have := strS_len r
    unfold strS
    cases h : strS r with
    | nil => exact absurd h (strS_ne r)
    | cons a b =>
      rw [h] at this
      exact this
  | .inr h :: r => by
    show (strS r).length + 1 = (hzs r).length + 1 + 1
    rw [strS_len r]
theorem handsZ_hzs : ∀ es : List Ze, handsZ es = (hzs es).map Sum.inr
  | [] => rfl
  | .inl w :: r => handsZ_hzs r
  | .inr h :: r => by
    show Sum.inr h :: handsZ r = Sum.inr h :: (hzs r).map Sum.inr
    rw [handsZ_hzs r]
theorem zsD_hands (es : List Ze) : zsD (handsZ es) = (hzs es).map hzD := by
  rw [handsZ_hzs]; unfold zsD; rw [List.map_map]; rfl
theorem strS_some (es : List Ze) : ∃ a b, strS es = a :: b := by
  cases h : strS es with
  | nil => exact absurd h (strS_ne es)
  | cons a b => exact ⟨a, b, rfl⟩
theorem strS_wd {w : Wd} {r : List Ze} {a : List Int} {b : List (List Int)} (h : strS r = a :: b) : strS (.inl w :: r) = (w.2 :: a) :: b := by
  show (match strS r with | h :: t => (w.2 :: h) :: t | [] => []) = _
  rw [h]
theorem strS_hd {x : Int × Int} {r : List Ze} : strS (.inr x :: r) = [] :: strS r := rfl
def zR : Ze → D
  | .inl w => .lst [.str (wordS w.1), .int w.2]
  | .inr h => .lst [.str handS, .int h.1, .int h.2]
def ZnF (d : D) (e : Ze) : Prop := d = zD e ∨ d = zR e
abbrev Prs := List (D × Ze)
def PrsF (ps : Prs) : Prop := ∀ p ∈ ps, ZnF p.1 p.2
abbrev ownPrs (es : List Ze) : Prs := es.map fun e => (zD e, e)
theorem own_fst (es : List Ze) : (ownPrs es).map Prod.fst = zsD es := by unfold zsD; rw [List.map_map]; rfl
theorem own_snd (es : List Ze) : (ownPrs es).map Prod.snd = es := by rw [List.map_map]; exact List.map_id' es
theorem own_F (es : List Ze) : PrsF (ownPrs es) := fun p hp => by
  obtain ⟨e, _, rfl⟩ := List.mem_map.mp hp
  exact .inl rfl
theorem zn_at0 {C : D → Prop} {d : D} {e : Ze} (hf : ZnF d e) (h : C (.str (kindZ e))) : fIx d (.int 0) C := by
  rcases hf with rfl | rfl
  · exact zD_at0 e h
  · cases e with
    | inl w => exact ⟨_, atI_nat (j := 0) rfl, h⟩
    | inr x => exact ⟨_, atI_nat (j := 0) rfl, h⟩
def g_is_hand : FA := fun ds C => ∃ d e, ds = [d] ∧ ZnF d e ∧ C (.val (.bl (isHz e)))
theorem rd_is_hand : ∀ ds C, ds.length = 1 → g_is_hand ds C → T_is_hand (EA C) (startA N_is_hand ds) := by
  rintro ds C - ⟨d, e, rfl, hf, hC⟩
  have q : fIx d (.int 0) fun z => fEq z (.str "hand") fun y => C (.val y) := zn_at0 hf ⟨sh_kindZ e, sh_hand, by rw [eqv_kindZ]; exact hC⟩
  rcases hf with rfl | rfl <;> cases e <;> exact q
def keepW (ws : List Str) (e : Ze) : Bool := (ws.map D.str).any fun z => z.eqv (.str (kindZ e))
theorem keepW_two (c : Bool) (e : Ze) : keepW [wordS c, "hand"] e = keepC c e := by
  cases e with
  | inl w =>
    obtain ⟨b, x⟩ := w
    show ((D.str (wordS c)).eqv (.str (wordS b)) || ((D.str "hand").eqv (.str (wordS b)) || false)) = (b == c)
    cases b <;> cases c <;> decide +kernel
  | inr h =>
    show ((D.str (wordS c)).eqv (.str handS) || ((D.str "hand").eqv (.str handS) || false)) = true
    cases c <;> decide +kernel
theorem keepW_hand (e : Ze) : keepW ["hand"] e = isHz e := by
  cases e with
  | inl w =>
    obtain ⟨b, x⟩ := w
    show ((D.str "hand").eqv (.str (wordS b)) || false) = false
    cases b <;> decide +kernel
  | inr h => show ((D.str "hand").eqv (.str handS) || false) = true; decide +kernel
theorem sh_ch (c : Bool) : (D.tup ([wordS c, ("hand" : Str)].map D.str)).sh := by cases c <;> (unfold D.sh; decide +kernel)
theorem sh_h1 : (D.tup ([("hand" : Str)].map D.str)).sh := by unfold D.sh; decide +kernel
def g_entries_with : FA := fun ds C => ∃ a es ws, ds = [a, .tup (ws.map D.str)] ∧ Zq a es ∧ (D.tup (ws.map D.str)).sh ∧ es.length ≤ 900 ∧ ∀ p, C (.own p (zsD (es.filter (keepW ws))))
def g_slopes_between : FA := fun ds C => ∃ a es, ds = [a] ∧ Zq a es ∧ es.length ≤ 900 ∧ ∀ p, C (.own p (rowsD (strS es)))
def g_same_hands : FA := fun ds C => ∃ a es b fs, ds = [a, b] ∧ Zq a es ∧ Zq b fs ∧ es.length ≤ 900 ∧ fs.length ≤ 900 ∧ handsZ es = handsZ fs ∧ (∀ p, C (.own p (zsD (handsZ es)))) ∧ C (.val (.lst (zsD (handsZ es))))
theorem hands_le (es : List Ze) : (handsZ es).length ≤ es.length := List.length_filter_le _ _
abbrev Pt := List Int × List Int × Option (Int × Int)
def hoD : Option (Int × Int) → D
  | none => .non
  | some h => hzD h
def ptD (q : Pt) : D := .tup [.lst (dI q.1), .lst (dI q.2.1), hoD q.2.2]
def partsZ (es fs : List Ze) : List Pt := (strS es).zip ((strS fs).zip ((hzs es).map some ++ [none]))
theorem tri_map {α β γ : Type} (f : α → D) (g : β → D) (k : γ → D) : ∀ (xs : List α) (ys : List β) (zs : List γ), tri (xs.map f) (ys.map g) (zs.map k) = (xs.zip (ys.zip zs)).map fun q => .tup [f q.1, g q.2.1, k q.2.2]
  | [], _, _ => rfl
  | _ :: _, [], _ => rfl
  | _ :: _, _ :: _, [] => rfl
  | x :: xs, y :: ys, z :: zs => by
    show D.tup [f x, g y, k z] :: tri (xs.map f) (ys.map g) (zs.map k) = _
    rw [tri_map f g k xs ys zs]; rfl
theorem parts_tri (es fs : List Ze) : tri (rowsD (strS es)) (rowsD (strS fs)) (zsD (handsZ es) ++ [.non]) = (partsZ es fs).map ptD := by
  rw [zsD_hands]
  have e : (hzs es).map hzD ++ [D.non] = ((hzs es).map some ++ [none]).map hoD := by rw [List.map_append, List.map_map]; rfl
  rw [e]
  exact tri_map (fun r : List Int => D.lst (r.map D.int)) (fun r : List Int => D.lst (r.map D.int)) hoD _ _ _
def g_stretches : FA := fun ds C => ∃ a es b fs, ds = [a, b] ∧ Zq a es ∧ Zq b fs ∧ es.length ≤ 900 ∧ fs.length ≤ 900 ∧ hzs es = hzs fs ∧ C (.val (.lst ((partsZ es fs).map ptD)))
theorem lit_f1 : ("f" : Str) = ⟨#[102]⟩ := by decide +kernel
theorem mul_f (n : Nat) : Txt.mul ("f" : Str) ((n : Nat) : Int) = txt (List.replicate n false) := by
  refine str_ext ?_
  rw [lit_f1, mul_one_list]
  show List.replicate (Int.toNat (n : Int)) 102 = (List.replicate n false).map sg
  rw [List.map_replicate, Int.toNat_natCast]; rfl
def nO (m n : Nat) : Nat := (allO m n).length
theorem nO_le (c f : Nat) : nO c f ≤ 2 ^ (c + f) := allO_len (c + f) c f (Nat.le_refl _)
theorem many_nO (cuts fills : List Int) : manyL cuts.length (bndL cuts.length fills.length []) = ((nO cuts.length fills.length : Nat) : Int) := by
  rw [← fits_count (ws := []) (fun w hw => absurd hw (by simp))]
  have : (allO cuts.length fills.length).filter (hasAll []) = allO cuts.length fills.length := List.filter_eq_self.mpr fun o _ => rfl
  show (((allO cuts.length fills.length).filter (hasAll [])).length : Int) = _
  rw [this]
  rfl
def totP (ps : List Pt) : Nat := (ps.map fun q => q.1.length + q.2.1.length + 1).sum
def waysZ (q : Pt) : List (List Wd) := (allO q.1.length q.2.1.length).map (almL q.1 q.2.1 0 0)
def hoZ : Option (Int × Int) → List Ze
  | none => []
  | some h => [.inr h]
theorem hoZ_len (h : Option (Int × Int)) : (hoZ h).length ≤ 1 := by cases h <;> simp [hoZ]
theorem zsD_app (a b : List Ze) : zsD a ++ zsD b = zsD (a ++ b) := by unfold zsD; rw [List.map_append]
theorem sl900 {n : Nat} (h : n ≤ 2000) : n ≤ sizeLine := Nat.le_trans h (by decide)
theorem windsZ (ws : List Wd) : windsD ws = zsD (ws.map Sum.inl) := by unfold windsD zsD; rw [List.map_map]; rfl
def slopesC (c : Bool) (ws : List Wd) : List Int := (ws.filter fun w => w.1 == c).map fun w => w.2
def splZ : List Ze → List (List Wd × Option (Int × Int))
  | [] => [([], none)]
  | .inl w :: r => match splZ r with
    | (ws, h) :: t => (w :: ws, h) :: t
    | [] => []
  | .inr h :: r => ([], some h) :: splZ r
theorem splZ_some : ∀ es : List Ze, ∃ ws h t, splZ es = (ws, h) :: t
  | [] => ⟨_, _, _, rfl⟩
  | .inl w :: r => by
    obtain ⟨ws, h, t, e⟩ := splZ_some r
    refine ⟨w :: ws, h, t, ?_⟩
    show (match splZ r with | (ws, h) :: t => (w :: ws, h) :: t | [] => []) = _
    rw [e]
  | .inr h :: r => ⟨_, _, _, rfl⟩
theorem splZ_wd {w : Wd} {r : List Ze} {ws : List Wd} {h : Option (Int × Int)} {t : List (List Wd × Option (Int × Int))} (e : splZ r = (ws, h) :: t) : splZ (.inl w :: r) = (w :: ws, h) :: t := by
  show (match splZ r with | (ws, h) :: t => (w :: ws, h) :: t | [] => []) = _
  rw [e]
theorem spl_hands : ∀ es : List Ze, (splZ es).map (·.2) = (hzs es).map some ++ [none]
  | [] => rfl
  | .inl w :: r => by
    obtain ⟨ws, h, t, e⟩ := splZ_some r
    have := spl_hands r
    rw [splZ_wd e]
    rw [e] at this
    exact this
  | .inr h :: r => by
    show some h :: (splZ r).map (·.2) = some h :: ((hzs r).map some ++ [none])
    rw [spl_hands r]
theorem hzs_kept (c : Bool) : ∀ es : List Ze, hzs (keptZ c es) = hzs es
  | [] => rfl
  | .inl w :: r => by
    show hzs (List.filter (keepC c) (.inl w :: r)) = hzs r
    rw [List.filter_cons]
    split
    · exact hzs_kept c r
    · exact hzs_kept c r
  | .inr h :: r => by
    show hzs (List.filter (keepC c) (.inr h :: r)) = h :: hzs r
    rw [List.filter_cons, if_pos (show keepC c (.inr h) = true from rfl), ← hzs_kept c r]
    rfl
theorem spl_slopes (c : Bool) : ∀ es : List Ze, strS (keptZ c es) = (splZ es).map fun p => slopesC c p.1
  | [] => rfl
  | .inl w :: r => by
    obtain ⟨ws, h, t, e⟩ := splZ_some r
    have ih := spl_slopes c r
    rw [e] at ih
    rw [splZ_wd e]
    show strS (List.filter (keepC c) (.inl w :: r)) = slopesC c (w :: ws) :: t.map fun p => slopesC c p.1
    have ih : strS (keptZ c r) = slopesC c ws :: t.map fun p => slopesC c p.1 := ih
    rw [List.filter_cons]
    unfold slopesC
    rw [List.filter_cons]
    by_cases hc : (w.1 == c) = true
    · rw [if_pos hc, if_pos (show keepC c (.inl w) = true from hc), strS_wd ih]
      rfl
    · rw [if_neg hc, if_neg (show ¬ keepC c (.inl w) = true from hc)]
      exact ih
  | .inr h :: r => by
    show strS (List.filter (keepC c) (.inr h :: r)) = [] :: (splZ r).map fun p => slopesC c p.1
    rw [List.filter_cons, if_pos (show keepC c (.inr h) = true from rfl), strS_hd, ← spl_slopes c r]
def toP (p : List Wd × Option (Int × Int)) : Pt := (slopesC true p.1, slopesC false p.1, p.2)
theorem zip3_same {α β γ δ : Type} (f : α → β) (g : α → γ) (k : α → δ) : ∀ l : List α, (l.map f).zip ((l.map g).zip (l.map k)) = l.map fun x => (f x, g x, k x)
  | [] => rfl
  | x :: l => by
    show (f x, g x, k x) :: (l.map f).zip ((l.map g).zip (l.map k)) = _
    rw [zip3_same f g k l]; rfl
theorem parts_own (es : List Ze) : partsZ (keptZ true es) (keptZ false es) = (splZ es).map toP := by
  unfold partsZ
  rw [hzs_kept, ← spl_hands, spl_slopes, spl_slopes]
  exact zip3_same (fun p => slopesC true p.1) (fun p => slopesC false p.1) (fun p => p.2) (splZ es)
theorem spl_sum : ∀ es : List Ze, ((splZ es).map fun p => p.1.length).sum ≤ es.length ∧ (splZ es).length ≤ es.length + 1
  | [] => ⟨Nat.le_refl _, Nat.le_refl _⟩
  | .inl w :: r => by
    obtain ⟨ws, h, t, e⟩ := splZ_some r
    have ih := spl_sum r
    rw [e] at ih
    rw [splZ_wd e]
    simp at ih ⊢
    omega
  | .inr h :: r => by
    have ih := spl_sum r
    have e : splZ (.inr h :: r) = ([], some h) :: splZ r := rfl
    rw [e]
    simp at ih ⊢
    omega
def zB (l : List Int) : Ze → List Int
  | .inl w => blW l w
  | .inr h => handL h.2 h.1.toNat l
def zDone (l : List Int) (es : List Ze) : List Int := es.foldl zB l
def okZ (n : Nat) : Ze → Prop
  | .inl w => 0 ≤ w.2
  | .inr h => 0 ≤ h.1 ∧ h.1 < (n : Int)
theorem zB_len (l : List Int) (e : Ze) : (zB l e).length = l.length := by
  cases e with
  | inl w => exact blW_len l w
  | inr h => exact handL_len _ _ l
def firstOZ (c : Bool) (m n : Nat) : List Bool := if c then List.replicate m true ++ List.replicate n false else List.replicate n false ++ List.replicate m true
def firstW (c : Bool) (q : Pt) : List Wd := almL q.1 q.2.1 0 0 (firstOZ c q.1.length q.2.1.length)
def allF (c : Bool) (ps : List Pt) : List Ze := ps.flatMap fun q => (firstW c q).map Sum.inl ++ hoZ q.2.2
theorem firstO_ct (c : Bool) (m n : Nat) : cT (firstOZ c m n) = m ∧ cF (firstOZ c m n) = n := by
  cases c
  · show cT (List.replicate n false ++ List.replicate m true) = m ∧ cF (List.replicate n false ++ List.replicate m true) = n
    rw [cT_append, cF_append, (ct_repT m).1, (ct_repF n).2, (ct_repT m).2, (ct_repF n).1]; omega
  · show cT (List.replicate m true ++ List.replicate n false) = m ∧ cF (List.replicate m true ++ List.replicate n false) = n
    rw [cT_append, cF_append, (ct_repT m).1, (ct_repF n).2, (ct_repT m).2, (ct_repF n).1]; omega
theorem firstO_len (c : Bool) (m n : Nat) : (firstOZ c m n).length = m + n := by
  have h1 := cT_cF (firstOZ c m n)
  have h2 := firstO_ct c m n
  omega
theorem firstW_mem (c : Bool) (q : Pt) : firstW c q ∈ waysZ q := List.mem_map.mpr ⟨_, (mem_allO _ _ _ (Nat.le_refl _) _).mpr (firstO_ct c _ _), rfl⟩
theorem way_nonneg {q : Pt} {w : List Wd} (hw : w ∈ waysZ q) (pc : Pos0 q.1) (pf : Pos0 q.2.1) : ∀ v ∈ w, 0 ≤ v.2 := by
  obtain ⟨o, ho, rfl⟩ := List.mem_map.mp hw
  exact almL_nonneg pc pf o 0 0
theorem way_len {q : Pt} {w : List Wd} (hw : w ∈ waysZ q) : w.length = q.1.length + q.2.1.length := by
  obtain ⟨o, ho, rfl⟩ := List.mem_map.mp hw
  obtain ⟨h1, h2⟩ := (mem_allO _ _ _ (Nat.le_refl _) o).mp ho
  have := cT_cF o
  rw [almL_len]; omega
def IsRow : List Pt → List Ze → Prop
  | [], r => r = []
  | q :: ps, r => ∃ w ∈ waysZ q, ∃ r', IsRow ps r' ∧ r = w.map Sum.inl ++ (hoZ q.2.2 ++ r')
def PtOk (n : Nat) (q : Pt) : Prop := Pos0 q.1 ∧ Pos0 q.2.1 ∧ ∀ e ∈ hoZ q.2.2, okZ n e
theorem allF_row (c : Bool) : ∀ ps : List Pt, IsRow ps (allF c ps)
  | [] => rfl
  | q :: ps => ⟨firstW c q, firstW_mem c q, allF c ps, allF_row c ps, by unfold allF; rw [List.flatMap_cons, List.append_assoc]⟩
theorem row_ok {n : Nat} : ∀ (ps : List Pt) (r : List Ze), IsRow ps r → (∀ q ∈ ps, PtOk n q) → ∀ e ∈ r, okZ n e
  | [], r, hr, _, e, he => by
    have hr : r = [] := hr
    subst hr
    cases he
  | q :: ps, r, hr, hp, e, he => by
    obtain ⟨w, hw, r', hr', rfl⟩ := hr
    obtain ⟨pc, pf, ph⟩ := hp q List.mem_cons_self
    rcases List.mem_append.mp he with he | he
    · obtain ⟨v, hv, rfl⟩ := List.mem_map.mp he
      exact way_nonneg hw pc pf v hv
    · rcases List.mem_append.mp he with he | he
      · exact ph e he
      · exact row_ok ps r' hr' (fun x hx => hp x (List.mem_cons_of_mem _ hx)) e he
theorem str_pos {n : Nat} : ∀ (es : List Ze), (∀ e ∈ es, okZ n e) → ∀ r ∈ strS es, Pos0 r
  | [], _, r, hr => by rw [List.mem_singleton.mp hr]; intro x hx; cases hx
  | .inl w :: es, h, r, hr => by
    obtain ⟨a, b, e⟩ := strS_some es
    have ih := str_pos es fun x hx => h x (List.mem_cons_of_mem _ hx)
    rw [strS_wd e] at hr
    rw [e] at ih
    rcases List.mem_cons.mp hr with rfl | hr
    · intro x hx
      rcases List.mem_cons.mp hx with rfl | hx
      · exact h (.inl w) List.mem_cons_self
      · exact ih a List.mem_cons_self x hx
    · exact ih r (List.mem_cons_of_mem _ hr)
  | .inr x :: es, h, r, hr => by
    rw [strS_hd] at hr
    rcases List.mem_cons.mp hr with rfl | hr
    · intro x hx; cases hx
    · exact str_pos es (fun x hx => h x (List.mem_cons_of_mem _ hx)) r hr
theorem hzs_in : ∀ (es : List Ze) (h : Int × Int), h ∈ hzs es → Sum.inr h ∈ es
  | .inl w :: es, h, m => List.mem_cons_of_mem _ (hzs_in es h m)
  | .inr x :: es, h, m => by
    have m : h ∈ x :: hzs es := m
    rcases List.mem_cons.mp m with rfl | m
    · exact List.mem_cons_self
    · exact List.mem_cons_of_mem _ (hzs_in es h m)
theorem parts_ok {n : Nat} {es fs : List Ze} (h1 : ∀ e ∈ es, okZ n e) (h2 : ∀ e ∈ fs, okZ n e) : ∀ q ∈ partsZ es fs, PtOk n q := by
  intro q hq
  obtain ⟨x, y, g⟩ := q
  have m1 := (List.of_mem_zip hq).1
  have m0 := List.of_mem_zip (List.of_mem_zip hq).2
  refine ⟨str_pos es h1 x m1, str_pos fs h2 y m0.1, fun e he => ?_⟩
  cases g with
  | none => cases he
  | some h =>
    have he : e = .inr h := List.mem_singleton.mp he
    have m2 : some h ∈ (hzs es).map some ++ [none] := m0.2
    rcases List.mem_append.mp m2 with m2 | m2
    · obtain ⟨h', hh, e'⟩ := List.mem_map.mp m2
      cases e'
      rw [he]
      exact h1 _ (hzs_in es h hh)
    · cases List.mem_singleton.mp m2
theorem tot_zip : ∀ (A B : List (List Int)) (G : List (Option (Int × Int))), totP (A.zip (B.zip G)) ≤ (A.map List.length).sum + (B.map List.length).sum + G.length
  | [], _, _ => Nat.zero_le _
  | _ :: _, [], _ => Nat.zero_le _
  | _ :: _, _ :: _, [] => Nat.zero_le _
  | a :: A, b :: B, g :: G => by
    have := tot_zip A B G
    have e : totP ((a :: A).zip ((b :: B).zip (g :: G))) = a.length + b.length + 1 + totP (A.zip (B.zip G)) := rfl
    rw [e]
    simp only [List.map_cons, List.sum_cons, List.length_cons]
    omega
theorem str_sum : ∀ es : List Ze, ((strS es).map List.length).sum + (hzs es).length = es.length
  | [] => rfl
  | .inl w :: es => by
    obtain ⟨a, b, e⟩ := strS_some es
    have ih := str_sum es
    rw [e] at ih
    rw [strS_wd e]
    show ((w.2 :: a).length + (b.map List.length).sum) + (hzs es).length = es.length + 1
    have ih : (a.length + (b.map List.length).sum) + (hzs es).length = es.length := ih
    rw [List.length_cons]
    omega
  | .inr x :: es => by
    have ih := str_sum es
    show (0 + ((strS es).map List.length).sum) + ((hzs es).length + 1) = es.length + 1
    omega
theorem tot_parts (es fs : List Ze) : totP (partsZ es fs) ≤ es.length + fs.length + 1 := by
  have h := tot_zip (strS es) (strS fs) ((hzs es).map some ++ [none])
  rw [List.length_append, List.length_map] at h
  have h1 := str_sum es
  have h2 := str_sum fs
  have h : totP (partsZ es fs) ≤ ((strS es).map List.length).sum + ((strS fs).map List.length).sum + ((hzs es).length + 1) := h
  omega
def g_done : FA := fun ds C => ∃ d ns ps, ds = [d, .lst (ps.map Prod.fst)] ∧ Sq d ns ∧ ns ≠ [] ∧ ns.length ≤ 1000 ∧ PrsF ps ∧ (∀ e ∈ ps.map Prod.snd, okZ ns.length e) ∧ C (.val (tD (zDone ns (ps.map Prod.snd))))
theorem done_step {P : PEnds} {d a : D} {now ns : List Int} {p : D × Ze} (hl : ns.length ≤ 1000) (hne : ns ≠ []) (h1 : now.length = ns.length) (hf : ZnF p.1 p.2) (ho : okZ ns.length p.2) (hP : P.nx [some (.val d), some (.val a), some (.val (tD (zB now p.2))), some (.val p.1)]) : pSet 2 (pVal (pIf (pTest (pFrz (pCallA 1 g_is_hand (pCons (pVar 3) pNil)))) (pFrz (pCallA 3 g_handed (pCons (pVar 2) (pCons (pIxO 3 (pC (.int 1))) (pCons (pIxO 3 (pC (.int 2))) pNil))))) (pFrz (pCallA 2 g_blownW (pCons (pVar 2) (pCons (pVar 3) pNil)))))) P [some (.val d), some (.val a), some (.val (tD now)), some (.val p.1)] := by
  have hne' : now ≠ [] := ne_len h1 hne
  obtain ⟨p1, e⟩ := p
  refine ⟨rfl, p1, e, rfl, hf, ?_⟩
  cases e with
  | inl w => exact ifF rfl ⟨rfl, _, now, p1, w.1, w.2, rfl, .inl rfl, hf, hne', by omega, hP⟩
  | inr h =>
    obtain ⟨q, v⟩ := h
    obtain ⟨h0, h2⟩ := ho
    obtain ⟨q, rfl⟩ := Int.eq_ofNat_of_zero_le h0
    have h2 : (q : Int) < (ns.length : Int) := h2
    rcases hf with hf | hf
    · have hf : p1 = .tup [.str handS, .int (q : Int), .int v] := hf
      subst hf
      exact ifT rfl ⟨_, rfl, _, rfl, rfl, _, now, q, v, rfl, .inl rfl, by omega, by omega, hP⟩
    · have hf : p1 = .lst [.str handS, .int (q : Int), .int v] := hf
      subst hf
      exact ifT rfl ⟨_, rfl, _, rfl, rfl, _, now, q, v, rfl, .inl rfl, by omega, by omega, hP⟩
theorem rd_done : ∀ ds C, ds.length = 2 → g_done ds C → T_done g_handed g_blownW g_is_hand (EA C) (startA N_done ds) := by
  rintro ds C - ⟨d, ns, ps, rfl, hd, hne, hl, hf, ho, hC⟩
  have fin : ∀ (d' : D) (P : PEnds), (∀ w3, P.nx [some (.val d'), some (.val (.lst (ps.map Prod.fst))), some (.val (tD (zDone ns (ps.map Prod.snd)))), w3]) → forW (hName 3) (pSet 2 (pVal (pIf (pTest (pFrz (pCallA 1 g_is_hand (pCons (pVar 3) pNil)))) (pFrz (pCallA 3 g_handed (pCons (pVar 2) (pCons (pIxO 3 (pC (.int 1))) (pCons (pIxO 3 (pC (.int 2))) pNil))))) (pFrz (pCallA 2 g_blownW (pCons (pVar 2) (pCons (pVar 3) pNil))))))) P (ps.map Prod.fst) [some (.val d'), some (.val (.lst (ps.map Prod.fst))), some (.val (tD ns)), none] := by
    intro d' P hP
    refine fr_mp ps Prod.fst (fun r ρ => ∃ (now : List Int) (w3 : Option Cell), now.length = ns.length ∧ PrsF r ∧ (∀ e ∈ r.map Prod.snd, okZ ns.length e) ∧ zDone now (r.map Prod.snd) = zDone ns (ps.map Prod.snd) ∧ ρ = [some (.val d'), some (.val (.lst (ps.map Prod.fst))), some (.val (tD now)), w3]) rfl ⟨ns, none, rfl, hf, ho, rfl, rfl⟩ (fun p r ρ K hI hK => ?_) (fun ρ hI => ?_)
    · obtain ⟨now, w3, h1, h0, h2, h3, rfl⟩ := hI
      exact done_step hl hne h1 (h0 p (by simp)) (h2 p.2 (by simp)) (hK _ ⟨zB now p.2, _, by rw [zB_len, h1], fun x hx => h0 x (by simp [hx]), fun x hx => h2 x (by rw [List.map_cons]; exact List.mem_cons_of_mem _ hx), h3, rfl⟩)
    · obtain ⟨now, w3, h1, h0, h2, h3, rfl⟩ := hI
      have h3 : now = zDone ns (ps.map Prod.snd) := h3
      subst h3
      exact hP w3
  rcases hd with rfl | rfl
  all_goals exact fin _ _ fun _ => hC
theorem done_own {d : D} {ns : List Int} {es : List Ze} {C : Cell → Prop} (hd : Sq d ns) (hne : ns ≠ []) (hl : ns.length ≤ 1000) (ho : ∀ e ∈ es, okZ ns.length e) (hC : C (.val (tD (zDone ns es)))) : g_done [d, .lst (zsD es)] C :=
  ⟨d, ns, ownPrs es, by rw [own_fst], hd, hne, hl, own_F es, by rw [own_snd]; exact ho, by rw [own_snd]; exact hC⟩
def g_all_of_one_first : FA := fun ds C => ∃ ps c, ds = [.lst (ps.map ptD), .str (wordS c)] ∧ totP ps ≤ 800 ∧ ∀ p, C (.own p (zsD (allF c ps)))
theorem rd_all_of_one_first : ∀ ds C, ds.length = 2 → g_all_of_one_first ds C → T_all_of_one_first g_almanac_of (EA C) (startA N_all_of_one_first ds) := by
  rintro ds C - ⟨ps, c, rfl, ht, hC⟩
  refine ⟨by show (0 : Nat) ≤ sizeLine; decide, fun p => ?_⟩
  refine fr_mp ps ptD (fun r ρ => ∃ (L : List Ze) (w3 w4 w5 w6 w7 : Option Cell), L ++ allF c r = allF c ps ∧ L.length + totP r ≤ 800 ∧ ρ = [some (.val (.lst (ps.map ptD))), some (.val (.str (wordS c))), some (.own p (zsD L)), w3, w4, w5, w6, w7]) rfl ⟨[], _, _, _, _, _, rfl, by simpa using ht, rfl⟩ (fun q r ρ K hI hK => ?_) (fun ρ hI => ?_)
  · obtain ⟨L, w3, w4, w5, w6, w7, eL, hL, rfl⟩ := hI
    have e3 : totP (q :: r) = q.1.length + q.2.1.length + 1 + totP r := rfl
    have hfl := firstO_len c q.1.length q.2.1.length
    have hct := firstO_ct c q.1.length q.2.1.length
    have wl : (firstW c q).length = q.1.length + q.2.1.length := way_len (firstW_mem c q)
    have m1 : MulOk ("c" : Str) ((dI q.1).length : Int) := mulOk_small (by decide) (by omega) (by rw [ints_len]; omega)
    have m2 : MulOk ("f" : Str) ((dI q.2.1).length : Int) := mulOk_small (by decide) (by omega) (by rw [ints_len]; omega)
    have x1 : Txt.mul ("c" : Str) ((dI q.1).length : Int) = txt (List.replicate q.1.length true) := by rw [ints_len, mul_c]
    have x2 : Txt.mul ("f" : Str) ((dI q.2.1).length : Int) = txt (List.replicate q.2.1.length false) := by rw [ints_len, mul_f]
    refine ⟨rfl, rfl, m1, ?_⟩
    rw [x1]
    refine ⟨m2, ?_⟩
    rw [x2]
    have fin : ∀ (L2 : List Ze), L2 = L ++ ((firstW c q).map Sum.inl ++ hoZ q.2.2) → K (([some (.val (.lst (ps.map ptD))), some (.val (.str (wordS c))), some (.own p (zsD L2)), some (.val (.lst (dI q.1))), some (.val (.lst (dI q.2.1))), some (.val (hoD q.2.2)), some (.val (.str (txt (List.replicate q.1.length true)))), some (.val (.str (txt (List.replicate q.2.1.length false))))] : Ro)) := fun L2 e2 => by
      refine hK _ ⟨L2, _, _, _, _, _, ?_, ?_, rfl⟩
      · rw [← eL, e2]
        unfold allF
        rw [List.flatMap_cons, List.append_assoc]
      · have := hoZ_len q.2.2
        rw [e2, List.length_append, List.length_append, List.length_map]
        omega
    have more : pIfS (pTest (pOp fNotN (pVar 5) (pC .non))) (pAppend 2 (pVar 5)) pNext { nx := K, rt := fun _ _ => True, ct := K, bk := fun _ => True } [some (.val (.lst (ps.map ptD))), some (.val (.str (wordS c))), some (.own p (zsD (L ++ (firstW c q).map Sum.inl))), some (.val (.lst (dI q.1))), some (.val (.lst (dI q.2.1))), some (.val (hoD q.2.2)), some (.val (.str (txt (List.replicate q.1.length true)))), some (.val (.str (txt (List.replicate q.2.1.length false))))] := by
      cases hq : q.2.2 with
      | none =>
        rw [hq] at fin
        exact fin _ (by show _ = L ++ (_ ++ []); rw [List.append_nil])
      | some h =>
        rw [hq] at fin
        refine ⟨_, rfl, Nat.lt_of_lt_of_le (show _ < 1000 by rw [zsD_len, List.length_append, List.length_map]; omega) (by decide), ?_⟩
        have := fin _ rfl
        rw [← List.append_assoc, ← zsD_app] at this
        exact this
    have tl : ∀ (a b : List Bool), a.length + b.length ≤ 1000 → (txt a).length + (txt b).length ≤ sizeLine := fun a b h => by rw [txt_len, txt_len]; exact sl1000 h
    have ext : (zsD L).length + (windsD (firstW c q)).length ≤ sizeLine := sl900 (by rw [zsD_len, windsD_len]; omega)
    have e4 : zsD L ++ windsD (firstW c q) = zsD (L ++ (firstW c q).map Sum.inl) := by rw [windsZ, zsD_app]
    rw [← e4] at more
    cases c
    · refine ⟨sh_word _, sh_word true, ifF (by decide +kernel) ⟨tl _ _ (by rw [List.length_replicate, List.length_replicate]; omega), ?_⟩⟩
      rw [txt_append]
      exact ⟨rfl, _, q.1, _, q.2.1, firstOZ false q.1.length q.2.1.length, rfl, .inr rfl, .inr rfl, by omega, by omega, by omega, fun p2 => ⟨_, rfl, ext, more⟩⟩
    · refine ⟨sh_word _, sh_word true, ifT (by decide +kernel) ⟨tl _ _ (by rw [List.length_replicate, List.length_replicate]; omega), ?_⟩⟩
      rw [txt_append]
      exact ⟨rfl, _, q.1, _, q.2.1, firstOZ true q.1.length q.2.1.length, rfl, .inr rfl, .inr rfl, by omega, by omega, by omega, fun p2 => ⟨_, rfl, ext, more⟩⟩
  · obtain ⟨L, w3, w4, w5, w6, w7, eL, _, rfl⟩ := hI
    have eL : L = allF c ps := by rw [← eL]; simp [allF]
    subst eL
    exact hC p
abbrev bothD (ns : List Int) (ps : List Pt) : D := .tup [tD (zDone ns (allF true ps)), tD (zDone ns (allF false ps))]
def g_long_may : FA := fun ds C => ∃ d ns a es b fs, ds = [d, a, b] ∧ Sq d ns ∧ ns ≠ [] ∧ ns.length ≤ 900 ∧ Zq a es ∧ Zq b fs ∧ es.length ≤ 300 ∧ fs.length ≤ 300 ∧ hzs es = hzs fs ∧ (∀ q ∈ partsZ es fs, PtOk ns.length q) ∧ C (.val (bothD ns (partsZ es fs)))
end Pl
namespace Pl
open PySem PySem.Spec PyProof.Rows L2
def BadP (n : Nat) (q : Int) : Prop := ¬ (0 ≤ q ∧ q < (n : Int))
abbrev badD (q v : Int) : D := .tup [.str handS, .int q, .int v]
theorem badF (q v : Int) : ZnF (badD q v) (.inr (q, v)) := .inl rfl
def gx_done : FX := fun ds C => ∃ d ns ps q v rest, ds = [d, .lst (ps.map Prod.fst ++ badD q v :: rest)] ∧ Sq d ns ∧ ns ≠ [] ∧ ns.length ≤ 1000 ∧ PrsF ps ∧ (∀ e ∈ ps.map Prod.snd, okZ ns.length e) ∧ BadP ns.length q ∧ C ⟨"NoPost", .int q⟩
theorem rdx_done : ∀ ds C, ds.length = 2 → gx_done ds C → TX_done g_handed g_blownW g_is_hand gx_handed E0 (EX C) (startA N_done ds) := by
  rintro ds C - ⟨d, ns, ps, q, v, rest, rfl, hd, hne, hl, hf, ho, hq, hC⟩
  have key : ∀ (d' a' : D) (P : PEnds) (xx : XP), (∀ ρ, xx ⟨"NoPost", .int q⟩ ρ) → ∀ (ps : Prs) (now : List Int) (w3 : Option Cell), PrsF ps → (∀ e ∈ ps.map Prod.snd, okZ ns.length e) → now.length = ns.length → xforW (hName 3) (xOr (pSet 2 (pVal (pIf (pTest (pFrz (pCallA 1 g_is_hand (pCons (pVar 3) pNil)))) (pFrz (pCallA 3 g_handed (pCons (pVar 2) (pCons (pIxO 3 (pC (.int 1))) (pCons (pIxO 3 (pC (.int 2))) pNil))))) (pFrz (pCallA 2 g_blownW (pCons (pVar 2) (pCons (pVar 3) pNil)))))))
    (xE (xIf1 (pTest (pFrz (pCallA 1 g_is_hand (pCons (pVar 3) pNil)))) (xCall 3 gx_handed (pCons (pVar 2) (pCons (pIxO 3 (pC (.int 1))) (pCons (pIxO 3 (pC (.int 2))) pNil))))))) P xx (ps.map Prod.fst ++ badD q v :: rest) [some (.val d'), some (.val a'), some (.val (tD now)), w3] := by
    intro d' a' P xx hx ps
    induction ps with
    | nil =>
      intro now w3 _ _ h1
      refine .inr ⟨rfl, _, .inr (q, v), rfl, badF q v, ?_⟩
      exact ⟨rfl, _, rfl, _, rfl, rfl, _, now, q, v, rfl, .inl rfl, by rw [h1]; exact hq, hx _⟩
    | cons p ps ih =>
      intro now w3 hf ho h1
      refine .inl (done_step hl hne h1 (hf p (by simp)) (ho p.2 (by simp)) ?_)
      exact ih (zB now p.2) _ (fun x h => hf x (by simp [h])) (fun x h => ho x (by rw [List.map_cons]; exact List.mem_cons_of_mem _ h)) (by rw [zB_len, h1])
  rcases hd with rfl | rfl
  all_goals exact key _ _ _ _ (fun _ => hC) ps ns none hf ho rfl
theorem fl_snoc (ess : List (List Ze)) (es : List Ze) : (ess ++ [es]).flatten = ess.flatten ++ es := by rw [List.flatten_append, List.flatten_cons, List.flatten_nil, List.append_nil]
theorem lt100 {n : Nat} (h : n ≤ 100000) : n < sizeLine := Nat.lt_of_le_of_lt h (by decide)
section
variable {Cy : Addr}
structure YdOk (l : List Int) (ess : List (List Ze)) : Prop where
  ne : l ≠ []
  len : l.length ≤ 900
  few : ess.flatten.length ≤ 250
  ok : ∀ e ∈ ess.flatten, okZ l.length e
theorem YdOk.nil {l : List Int} (h : l ≠ []) (h2 : l.length ≤ 900) : YdOk l [] := ⟨h, h2, by show (0 : Nat) ≤ 250; decide, fun e he => absurd he List.not_mem_nil⟩
theorem YdOk.snoc {l : List Int} {ess : List (List Ze)} {es : List Ze} (h : YdOk l ess) (h2 : ess.flatten.length + es.length ≤ 250) (h3 : ∀ e ∈ es, okZ l.length e) : YdOk l (ess ++ [es]) :=
  ⟨h.ne, h.len, by rw [fl_snoc, List.length_append]; exact h2, fun e he => by
    rw [fl_snoc] at he
    rcases List.mem_append.mp he with he | he
    · exact h.ok e he
    · exact h3 e he⟩
end
end Pl
namespace Pl
open PySem PySem.Spec PyProof.Rows L2
theorem okN_zD (m : Nat) (e : Ze) : okN (m + 1) (zD e) := by
  have hi : ∀ i : Int, okN m (.int i) := fun i => by cases m <;> trivial
  have hs : ∀ y : Str, (D.str y).sh → okN m (.str y) := fun y h => by cases m <;> exact h
  cases e with
  | inl w => exact ⟨by show (2 : Nat) ≤ 1000; decide, fun y hy => by
      rcases List.mem_cons.mp hy with rfl | hy
      · exact hs _ (sh_word _)
      · rw [List.mem_singleton.mp hy]; exact hi _⟩
  | inr h => exact ⟨by show (3 : Nat) ≤ 1000; decide, fun y hy => by
      rcases List.mem_cons.mp hy with rfl | hy
      · exact hs _ sh_hand
      rcases List.mem_cons.mp hy with rfl | hy
      · exact hi _
      · rw [List.mem_singleton.mp hy]; exact hi _⟩
theorem okN_zs (m : Nat) {es : List Ze} (h : es.length ≤ 1000) : okN (m + 2) (.lst (zsD es)) := ⟨by rw [zsD_len]; exact h, fun x hx => by
  obtain ⟨e, _, rfl⟩ := List.mem_map.mp hx
  exact okN_zD m e⟩
end Pl
namespace Pl
open PySem PySem.Spec PyProof.Rows L2
def hpos : Nat → List Ze → List Nat
  | _, [] => []
  | k, .inr _ :: r => k :: hpos (k + 1) r
  | k, .inl _ :: r => hpos (k + 1) r
theorem hpos_filter : ∀ (es : List Ze) (k : Nat), ((es.zipIdx k).filter fun z => isHz z.1).map (fun z => z.2) = hpos k es
  | [], _ => rfl
  | .inr x :: r, k => by
    rw [List.zipIdx_cons, List.filter_cons_of_pos rfl, List.map_cons, hpos_filter r (k + 1)]; rfl
  | .inl x :: r, k => by
    rw [List.zipIdx_cons, List.filter_cons]; exact hpos_filter r (k + 1)
theorem hpos_len (a : List Ze) (k : Nat) : (hpos k a).length ≤ a.length := by
  induction a generalizing k with
  | nil => exact Nat.le_refl _
  | cons e r ih =>
    cases e with
    | inr _ => exact Nat.succ_le_succ (ih _)
    | inl _ => exact Nat.le_succ_of_le (ih _)
instance : DecidableEq Ze := inferInstanceAs (DecidableEq (Wd ⊕ (Int × Int)))
theorem eqv_z : ∀ e f : Ze, PyData.eqv (toPy (zD e)) (toPy (zD f)) = decide (e = f)
  | .inl w, .inl v => by
    show PyData.eqv (toPy (windD w.1 w.2)) (toPy (windD v.1 v.2)) = _
    rw [eqv_wind]
    exact decide_eq_decide.mpr ⟨fun h => by rw [h], fun h => by injection h⟩
  | .inr x, .inr y => by
    show ((D.str handS).eqv (.str handS) && ((x.1 == y.1) && ((x.2 == y.2) && true))) = _
    rw [eqv_str]
    obtain ⟨a, s⟩ := x
    obtain ⟨b, t⟩ := y
    by_cases h1 : a = b <;> by_cases h2 : s = t <;> simp [h1, h2]
  | .inl w, .inr y => by
    show ((D.str (wordS w.1)).eqv (.str handS) && ((w.2 == y.1) && false)) = _
    simp
  | .inr x, .inl v => by
    show ((D.str handS).eqv (.str (wordS v.1)) && ((x.1 == v.2) && false)) = _
    simp
theorem eqvAll_zs : ∀ a b : List Ze, PyData.eqvAll (toPys (zsD a)) (toPys (zsD b)) = decide (a = b)
  | [], [] => rfl
  | [], _ :: _ => rfl
  | _ :: _, [] => rfl
  | w :: a, v :: b => by
    show (PyData.eqv (toPy (zD w)) (toPy (zD v)) && PyData.eqvAll (toPys (zsD a)) (toPys (zsD b))) = _
    rw [eqvAll_zs a b, eqv_z]
    by_cases h : w = v <;> simp [h]
theorem eqv_zs (a b : List Ze) : (D.lst (zsD a)).eqv (.lst (zsD b)) = decide (a = b) := eqvAll_zs a b
end Pl
namespace Pl
open PySem PySem.Spec PyProof.Rows L2
abbrev N_slopes_between_k56 : List Str := [("book" : Str), ("rows" : Str), ("entry" : Str)]
def T_slopes_between_k56 (g_is_hand : FA) : TSp :=
  (pSeq (pSet 1 pMxNew)
    (pSeq (pFor (jSeq (pVar 0)) (hName 2)
    (pIfS (pTest (pFrz (pCallA 1 g_is_hand (pCons (pVar 2) pNil))))
    (pMxApp0 1)
    (pMxApp 1 (pUn fNeg (pC (.int 1))) (pIxO 2 (pC (.int 1))))))
    (pRet (pMove 1))))
abbrev N_stretches_k56 : List Str := [("cutter" : Str), ("filler" : Str), ("hands" : Str)]
def T_stretches_k56 (g_slopes_between : FA) (g_same_hands : FA) : TSp :=
  (pSeq (pSet 2 (pCallA 2 g_same_hands (pCons (pVar 0) (pCons (pVar 1) pNil))))
    (pRet (pZipSt (pConsB (pCallA 1 g_slopes_between (pCons (pVar 0) pNil)) (pConsB (pCallA 1 g_slopes_between (pCons (pVar 1) pNil)) (pConsB (pVal (pLst (pStar (pVar 2) (pCons (pC .non) pNil)))) pNilC))))))
abbrev N_long_may_k56 : List Str := [("dune" : Str), ("cutter" : Str), ("filler" : Str), ("parts" : Str)]
def T_long_may_k56 (g_done : FA) (g_stretches : FA) (g_all_of_one_first : FA) : TSp :=
  (pSeq (pSet 3 (pVal (pStFrz (pCallA 2 g_stretches (pCons (pVar 1) (pCons (pVar 2) pNil))))))
    (pRet (pVal (pTup (pCons (pFrz (pCallA 2 g_done (pCons (pVar 0) (pCons (pFrz (pCallA 2 g_all_of_one_first (pCons (pVar 3) (pCons (pC (.str "cut")) pNil)))) pNil)))) (pCons (pFrz (pCallA 2 g_done (pCons (pVar 0) (pCons (pFrz (pCallA 2 g_all_of_one_first (pCons (pVar 3) (pCons (pC (.str "fill")) pNil)))) pNil)))) pNil))))))
abbrev N_long_many : List Str := [("cutter" : Str), ("filler" : Str), ("many" : Str), ("cuts" : Str), ("fills" : Str), ("hand" : Str)]
def T_long_many (g_orders_many : FA) (g_stretches : FA) : TSp :=
  (pSeq (pSet 2 (pVal (pC (.int 1))))
    (pSeq (pFor (jSeq (pStFrz (pCallA 2 g_stretches (pCons (pVar 0) (pCons (pVar 1) pNil))))) (hTup 3 (hCons (hName 3) (hCons (hName 4) (hCons (hName 5) hNil))))
    (pAugM 2 (pFrz (pCallA 3 g_orders_many (pCons (pVar 3) (pCons (pVar 4) (pCons (pLst pNil) pNil)))))))
    (pRet (pMove 2))))
abbrev N__law_entries : List Str := [("_law_box_here" : Str), ("_law_posts" : Str), ("_law_size" : Str), ("_law_told_here" : Str), ("_law_turn" : Str), ("_law_way" : Str), ("_law_by" : Str), ("_law_wind" : Str)]
def T__law_entries (g__law_take : FB) (g__law_slope : FB) : TSp :=
  (pSeq (pSet 3 (pLstO pNil))
    (pSeq (pFor (jRng1 (pCons (pFrz (pCallB 0 2 g__law_take (pCons (pOp fAdd (pVar 2) (pC (.int 1))) pNil))) pNil)) (hName 4)
    (pSeq (pSet 5 (pCallB 0 2 g__law_take (pCons (pC (.int 5)) pNil)))
    (pSeq (pSet 6 (pVal (pOp fIx (pLst (pCons (pC (.int 1)) (pCons (pUn fNeg (pC (.int 1))) (pCons (pOp fAdd (pC (.int 1)) (pFrz (pCallB 0 2 g__law_take (pCons (pC (.int 20)) pNil)))) (pCons (pOp fSub (pUn fNeg (pC (.int 1))) (pFrz (pCallB 0 2 g__law_take (pCons (pC (.int 20)) pNil)))) pNil))))) (pFrz (pCallB 0 2 g__law_take (pCons (pC (.int 4)) pNil))))))
    (pSeq (pSet 7 (pVal (pTup (pCons (pOp fIx (pLst (pCons (pC (.str "cut")) (pCons (pC (.str "fill")) pNil))) (pOp fMod (pVar 5) (pC (.int 2)))) (pCons (pFrz (pCallB 0 1 g__law_slope pNil)) pNil)))))
    (pAppend 3 (pIf (pTest (pOp fEq (pVar 5) (pC (.int 4)))) (pTup (pCons (pC (.str "hand")) (pCons (pFrz (pCallB 0 2 g__law_take (pCons (pVar 1) pNil))) (pCons (pVar 6) pNil)))) (pVar 7)))))))
    (pRet (pMove 3))))
abbrev N__law_books_of : List Str := [("_law_entries_here" : Str), ("_law_word" : Str), ("_law_entry" : Str)]
def T__law_books_of : TSp :=
  (pRet (pLcO (jSeq (pTup (pCons (pC (.str "cut")) (pCons (pC (.str "fill")) pNil)))) (hName 1) pYes (pLc (jSeq (pVar 0)) (hName 2) (pTest (pOp fInT (pIxO 2 (pC (.int 0))) (pTup (pCons (pVar 1) (pCons (pC (.str "hand")) pNil))))) (pVar 2) [2]) [1]))
abbrev N__law_due : List Str := [("_law_entries_here" : Str), ("_law_told_here" : Str), ("_law_cuts" : Str), ("_law_fills" : Str), ("_law_entry" : Str)]
def T__law_due : TSp :=
  (pSeq (pParC3 1 2 3 (pConsC (pLstO pNil) (pConsC (pLstO pNil) (pConsC (pLstO pNil) pNilC))))
    (pSeq (pFor (jSeq (pVar 0)) (hName 4)
    (pIfS (pTest (pOp fEq (pIxO 4 (pC (.int 0))) (pC (.str "hand"))))
    (pSeq (pAppend 1 (pTup (pCons (pVar 2) (pCons (pVar 3) (pCons (pVar 4) pNil)))))
    (pParC 2 3 (pConsC (pLstO pNil) (pConsC (pLstO pNil) pNilC))))
    (pPickApp 2 3 (pCB fInt1 (pCons (pOp fEq (pIxO 4 (pC (.int 0))) (pC (.str "fill"))) pNil)) (pIxO 4 (pC (.int 1))))))
    (pRet (pVal (pOp fAdd (pVar 1) (pLst (pCons (pTup (pCons (pVar 2) (pCons (pVar 3) (pCons (pC .non) pNil)))) pNil)))))))
abbrev N__law_told : List Str := [("_law_way" : Str), ("_law_cutter" : Str), ("_law_filler" : Str), ("_law_caught" : Str), ("_law_told_here" : Str), ("error" : Str), ("_law_fine" : Str)]
def T__law_told (g_stretches : FA) (g_long_may : FA) (g_long_many : FA) (gx_stretches : FX) (gx_long_may : FX) (gx_long_many : FX) : TSp :=
  (pSeq (pAsg (pTup (pCons (pC .non) (pCons (pC .non) pNil))) (hTup 2 (hCons (hName 3) (hCons (hName 4) hNil))))
    (pSeq (pTry 5 3 [("Astray" : Str), ("Clash" : Str), ("NoPost" : Str)]
    (xOr (pSet 4 (pIfC (pTest (pOp fLt (pVar 0) (pC (.int 2)))) (pCallPk g_stretches g_long_many (pVar 0) (pCons (pVar 1) (pCons (pVar 2) pNil))) (pCallA 3 g_long_may (pCons (pTup (pCons (pC (.int 0)) pNil)) (pCons (pVar 1) (pCons (pVar 2) pNil))))))
    (xE (xIf (pTest (pOp fLt (pVar 0) (pC (.int 2)))) (xCallPk gx_stretches gx_long_many (pVar 0) (pCons (pVar 1) (pCons (pVar 2) pNil))) (xCall 3 gx_long_may (pCons (pTup (pCons (pC (.int 0)) pNil)) (pCons (pVar 1) (pCons (pVar 2) pNil))))))))
    (pSeq (pIfS (pTest (pOp fIsN (pVar 3) (pC .non)))
    (pRet (pMove 4))
    pNext)
    (pSeq (pSet 6 (pVal (pAndV (pIsX [("Astray" : Str), ("Clash" : Str), ("NoPost" : Str)] [("Astray" : Str)] (pVar 3)) (pAndV (pIsX [("Astray" : Str), ("Clash" : Str), ("NoPost" : Str)] [("ValueError" : Str)] (pVar 3)) (pNotV (pIsX [("Astray" : Str), ("Clash" : Str), ("NoPost" : Str)] [("Clash" : Str), ("NoPost" : Str)] (pVar 3)))))))
    (pRet (pVal (pIf (pTest (pVar 6)) (pTup (pCons (pC (.str "astray")) (pCons (pXf [("Astray" : Str), ("Clash" : Str), ("NoPost" : Str)] "number" (pVar 3)) pNil))) (pC (.str "other")))))))))
abbrev N__law_bent : List Str := [("_law_box_here" : Str), ("_law_book" : Str), ("_law_k" : Str), ("_law_entry" : Str), ("_law_hands" : Str), ("_law_way" : Str), ("_law_at" : Str), ("_law_word" : Str), ("_law_post" : Str), ("_law_by" : Str), ("_law_more" : Str)]
def T__law_bent (g__law_take : FB) (g__law_of : FB) : TSp :=
  (pSeq (pSet 4 (pVal (pLc (jE (pCons (pVar 1) pNil)) (hTup 2 (hCons (hName 2) (hCons (hName 3) hNil))) (pTest (pOp fEq (pIxO 3 (pC (.int 0))) (pC (.str "hand")))) (pVar 2) [2, 3])))
    (pSeq (pSet 5 (pVal (pIf (pTest (pOp fNe (pVar 4) (pLst pNil))) (pFrz (pCallB 0 2 g__law_take (pCons (pC (.int 4)) pNil))) (pC (.int 3)))))
    (pSeq (pIfS (pTest (pOp fEq (pVar 5) (pC (.int 3))))
    (pRet (pVal (pOp fAdd (pVar 1) (pLst (pCons (pTup (pCons (pC (.str "hand")) (pCons (pC (.int 7)) (pCons (pC (.int 1)) pNil)))) pNil)))))
    pNext)
    (pSeq (pSet 6 (pCallB 0 2 g__law_of (pCons (pVar 4) pNil)))
    (pSeq (pAsg (pIxO 1 (pVar 6)) (hTup 3 (hCons (hName 7) (hCons (hName 8) (hCons (hName 9) hNil)))))
    (pSeq (pSet 10 (pVal (pOp fIx (pLst (pCons (pLst pNil) (pCons (pLst (pCons (pIxO 1 (pVar 6)) (pCons (pIxO 1 (pVar 6)) pNil))) (pCons (pLst (pCons (pTup (pCons (pVar 7) (pCons (pVar 8) (pCons (pOp fAdd (pVar 9) (pC (.int 100))) pNil)))) pNil)) pNil)))) (pVar 5))))
    (pRet (pVal (pOp fAdd (pOp fAdd (pSl (pVar 1) pNoPart (pPart (pVar 6))) (pVar 10)) (pSl (pVar 1) (pPart (pOp fAdd (pVar 6) (pC (.int 1)))) pNoPart))))))))))
abbrev N__law_right : List Str := [("_law_box_here" : Str), ("_law_entries_here" : Str), ("_law_cutter" : Str), ("_law_filler" : Str), ("_law_due_here" : Str), ("_law_told_here" : Str), ("_law_turn" : Str), ("_law_bent_here" : Str), ("_law_pair" : Str), ("_law_book" : Str), ("_law_entry" : Str), ("_law_hands" : Str), ("_law_size" : Str), ("_law_k" : Str), ("_law_places" : Str), ("_law_wrong" : Str), ("_law_way" : Str), ("_law_found" : Str)]
def T__law_right_1 (g__law_entries : FB) : TSp :=
  (pSet 1 (pCallB 0 3 g__law_entries (pCons (pC (.int 6)) (pCons (pC (.int 39)) pNil))))
def T__law_right_2 (g__law_books_of : FA) : TSp :=
  (pAsg (pFrz (pCallA 1 g__law_books_of (pCons (pVar 1) pNil))) (hTup 2 (hCons (hName 2) (hCons (hName 3) hNil))))
def T__law_right_3 (g__law_due : FA) : TSp :=
  (pSet 4 (pCallA 1 g__law_due (pCons (pVar 1) pNil)))
def T__law_right_4 (g__law_lists : FA) (g__law_told : FA) : TSp :=
  (pSet 5 (pTwo (pConsB (pCallA 3 g__law_told (pCons (pC (.int 0)) (pCons (pVar 2) (pCons (pVar 3) pNil)))) (pConsB (pCallA 3 g__law_told (pCons (pC (.int 0)) (pCons (pCB fTup (pCons (pFrz (pCallA 1 g__law_lists (pCons (pVar 2) pNil))) pNil)) (pCons (pFrz (pCallA 1 g__law_lists (pCons (pVar 3) pNil))) pNil)))) pNilC))))
def T__law_right_5_1 : TSp :=
  (pRet (pVal (pC (.bl false))))
def T__law_right_5 (g__law_same : FA) : TSp :=
  (pIfS (pNot (pTest (pCallTw 5 g__law_same (pLst (pCons (pVar 4) (pCons (pVar 4) pNil))))))
    T__law_right_5_1
    pNext)
def T__law_right_6 : TSp :=
  (pTwApp 5 0 0 (pC (.int 5)))
def T__law_right_7 : TSp :=
  (pTwApp 5 (-1) 1 (pC (.int 5)))
def T__law_right_8_1 : TSp :=
  (pRet (pVal (pC (.bl false))))
def T__law_right_8 (g__law_same : FA) (g__law_told : FA) : TSp :=
  (pIfS (pNot (pTest (pCallTw2 5 g__law_same (pCallA 3 g__law_told (pCons (pC (.int 0)) (pCons (pVar 2) (pCons (pVar 3) pNil)))) (pLst (pCons (pVar 4) (pCons (pVar 4) pNil))))))
    T__law_right_8_1
    pNext)
def T__law_right_9_1 (g__law_bent : FB) : TSp :=
  (pSet 7 (pCallB 0 2 g__law_bent (pCons (pOp fIx (pLst (pCons (pVar 2) (pCons (pVar 3) pNil))) (pOp fMod (pVar 6) (pC (.int 2)))) pNil)))
def T__law_right_9_2 : TSp :=
  (pSet 8 (pVal (pOp fIx (pLst (pCons (pTup (pCons (pVar 7) (pCons (pVar 3) pNil))) (pCons (pTup (pCons (pVar 2) (pCons (pVar 7) pNil))) pNil))) (pOp fMod (pVar 6) (pC (.int 2))))))
def T__law_right_9_3 : TSp :=
  (pSet 11 (pVal (pLc (jSeq (pVar 8)) (hName 9) pYes (pLc (jSeq (pVar 9)) (hName 10) (pTest (pOp fEq (pIxO 10 (pC (.int 0))) (pC (.str "hand")))) (pVar 10) [10]) [9])))
def T__law_right_9_4 : TSp :=
  (pSet 12 (pVal (pCB fMax2 (pCons (pCB fLen (pCons (pIxO 11 (pC (.int 0))) pNil)) (pCons (pCB fLen (pCons (pIxO 11 (pC (.int 1))) pNil)) pNil)))))
def T__law_right_9_5 : TSp :=
  (pSet 14 (pVal (pLc (jRng1 (pCons (pVar 12) pNil)) (hName 13) (pTest (pOp fNe (pSl (pIxO 11 (pC (.int 0))) (pPart (pVar 13)) (pPart (pOp fAdd (pVar 13) (pC (.int 1))))) (pSl (pIxO 11 (pC (.int 1))) (pPart (pVar 13)) (pPart (pOp fAdd (pVar 13) (pC (.int 1))))))) (pVar 13) [13])))
def T__law_right_9_6 : TSp :=
  (pSet 15 (pVal (pIf (pTest (pOp fNe (pVar 14) (pLst pNil))) (pTup (pCons (pC (.str "astray")) (pCons (pIxO 14 (pC (.int 0))) pNil))) (pC .non))))
def T__law_right_9_7 (g__law_told : FA) : TSp :=
  (pSet 17 (pVal (pLc (jRng1 (pCons (pC (.int 3)) pNil)) (hName 16) pYes (pFrz (pCallA 3 g__law_told (pCons (pVar 16) (pCons (pIxO 8 (pC (.int 0))) (pCons (pIxO 8 (pC (.int 1))) pNil))))) [16])))
def T__law_right_9_8_1 : TSp :=
  (pRet (pVal (pC (.bl false))))
def T__law_right_9_8 (g__law_same : FA) : TSp :=
  (pIfS (pAnd (pTest (pOp fNotN (pVar 15) (pC .non))) (pNot (pTest (pFrz (pCallA 2 g__law_same (pCons (pVar 17) (pCons (pOp fRep (pLst (pCons (pVar 15) pNil)) (pC (.int 3))) pNil)))))))
    T__law_right_9_8_1
    pNext)
def T__law_right_9 (g__law_same : FA) (g__law_told : FA) (g__law_bent : FB) : TSp :=
  (pFor (jRng1 (pCons (pC (.int 4)) pNil)) (hName 6)
    (pSeq (T__law_right_9_1 g__law_bent)
    (pSeq T__law_right_9_2
    (pSeq T__law_right_9_3
    (pSeq T__law_right_9_4
    (pSeq T__law_right_9_5
    (pSeq T__law_right_9_6
    (pSeq (T__law_right_9_7 g__law_told)
    (T__law_right_9_8 g__law_same)))))))))
def T__law_right_10 : TSp :=
  (pRet (pVal (pC (.bl true))))
def T__law_right (g__law_same : FA) (g__law_lists : FA) (g__law_entries : FB) (g__law_books_of : FA) (g__law_due : FA) (g__law_told : FA) (g__law_bent : FB) : TSp :=
  (pSeq (T__law_right_1 g__law_entries)
    (pSeq (T__law_right_2 g__law_books_of)
    (pSeq (T__law_right_3 g__law_due)
    (pSeq (T__law_right_4 g__law_lists g__law_told)
    (pSeq (T__law_right_5 g__law_same)
    (pSeq T__law_right_6
    (pSeq T__law_right_7
    (pSeq (T__law_right_8 g__law_same g__law_told)
    (pSeq (T__law_right_9 g__law_same g__law_told g__law_bent)
    T__law_right_10)))))))))
abbrev N_law : List Str := [("_law_script" : Str), ("_law_k" : Str)]
def T_law_1 (g__law_box : FA) (g__law_right : FB) : TSp :=
  (pRet (pVal (pCB fAll (pCons (pLc (jRng1 (pCons (pOp fAdd (pC (.int 1)) (pCB fMin2 (pCons (pC (.int 3)) (pCons (pLenO 0) pNil)))) pNil)) (hName 1) pYes (pFrz (pCallX 1 g__law_right (pCallA 2 g__law_box (pCons (pVar 0) (pCons (pVar 1) pNil))) pNil)) [1]) pNil))))
def T_law (g__law_box : FA) (g__law_right : FB) : TSp :=
  (T_law_1 g__law_box g__law_right)
def TX_stretches (g_slopes_between : FA) (g_same_hands : FA) (gx_same_hands : FX) : TXs :=
  (xSeq (xOr (pSet 2 (pCallA 2 g_same_hands (pCons (pVar 0) (pCons (pVar 1) pNil))))
    (xE (xCall 2 gx_same_hands (pCons (pVar 0) (pCons (pVar 1) pNil)))))
    (xOk (pRet (pZipSt (pConsB (pCallA 1 g_slopes_between (pCons (pVar 0) pNil)) (pConsB (pCallA 1 g_slopes_between (pCons (pVar 1) pNil)) (pConsB (pVal (pLst (pStar (pVar 2) (pCons (pC .non) pNil)))) pNilC)))))))
def TX_long_may (g_done : FA) (g_stretches : FA) (g_all_of_one_first : FA) (gx_done : FX) (gx_stretches : FX) : TXs :=
  (xSeq (xOr (pSet 3 (pVal (pStFrz (pCallA 2 g_stretches (pCons (pVar 1) (pCons (pVar 2) pNil))))))
    (xE (xCall 2 gx_stretches (pCons (pVar 1) (pCons (pVar 2) pNil)))))
    (xOr (pRet (pVal (pTup (pCons (pFrz (pCallA 2 g_done (pCons (pVar 0) (pCons (pFrz (pCallA 2 g_all_of_one_first (pCons (pVar 3) (pCons (pC (.str "cut")) pNil)))) pNil)))) (pCons (pFrz (pCallA 2 g_done (pCons (pVar 0) (pCons (pFrz (pCallA 2 g_all_of_one_first (pCons (pVar 3) (pCons (pC (.str "fill")) pNil)))) pNil)))) pNil)))))
    (xE (xCall 2 gx_done (pCons (pVar 0) (pCons (pFrz (pCallA 2 g_all_of_one_first (pCons (pVar 3) (pCons (pC (.str "cut")) pNil)))) pNil))))))
def TX_long_many (g_orders_many : FA) (g_stretches : FA) (gx_stretches : FX) : TXs :=
  (xSeq (xOk (pSet 2 (pVal (pC (.int 1)))))
    (xSeq (xOr (pFor (jSeq (pStFrz (pCallA 2 g_stretches (pCons (pVar 0) (pCons (pVar 1) pNil))))) (hTup 3 (hCons (hName 3) (hCons (hName 4) (hCons (hName 5) hNil))))
    (pAugM 2 (pFrz (pCallA 3 g_orders_many (pCons (pVar 3) (pCons (pVar 4) (pCons (pLst pNil) pNil)))))))
    (xE (xCall 2 gx_stretches (pCons (pVar 0) (pCons (pVar 1) pNil)))))
    (xOk (pRet (pMove 2)))))
def TX_same_hands (g_entries_with : FA) (ok_Astray : D → Prop) : TXs :=
  (xSeq (xOk (pSet 2 (pCallA 2 g_entries_with (pCons (pVar 0) (pCons (pTup (pCons (pC (.str "hand")) pNil)) pNil)))))
    (xSeq (xOk (pSet 3 (pCallA 2 g_entries_with (pCons (pVar 1) (pCons (pTup (pCons (pC (.str "hand")) pNil)) pNil)))))
    (xSeq (xFor (jRng1 (pCons (pCB fMax2 (pCons (pLenO 2) (pCons (pLenO 3) pNil))) pNil)) (hName 4)
    (xIfS (pTest (pOp fNe (pSl (pVar 2) (pPart (pVar 4)) (pPart (pOp fAdd (pVar 4) (pC (.int 1))))) (pSl (pVar 3) (pPart (pVar 4)) (pPart (pOp fAdd (pVar 4) (pC (.int 1)))))))
    (xRaise "Astray" ok_Astray (pCons (pVar 4) pNil))
    xNext))
    (xOk (pRet (pMove 2))))))
def Zp (a : D) (ps : Prs) : Prop := (a = .lst (ps.map Prod.fst) ∨ a = .tup (ps.map Prod.fst)) ∧ PrsF ps
abbrev eZ (ps : Prs) : List Ze := ps.map Prod.snd
theorem Zp.of {a : D} {es : List Ze} (h : Zq a es) : Zp a (ownPrs es) := ⟨by rw [own_fst]; exact h, own_F es⟩
def g_entries_withP : FA := fun ds C => ∃ a ps ws, ds = [a, .tup (ws.map D.str)] ∧ Zp a ps ∧ (D.tup (ws.map D.str)).sh ∧ ps.length ≤ 900 ∧ ∀ p, C (.own p (zsD ((eZ ps).filter (keepW ws))))
theorem rd_entries_withP : ∀ ds C, ds.length = 2 → g_entries_withP ds C → T_entries_with (EA C) (startA N_entries_with ds) := by
  rintro ds C - ⟨a, ps, ws, rfl, ⟨ha, hf⟩, hs, hl, hC⟩
  have fin : ∀ (a' : D) (Q : List D → Ro → Prop), Q (zsD ((eZ ps).filter (keepW ws))) [some (.val a'), some (.val (.tup (ws.map D.str))), none] → lcW [2] (hName 2) (pTest (pOp fInT (pIxO 2 (pC (.int 0))) (pVar 1))) (pCB fTup (pCons (pVar 2) pNil)) Q (ps.map Prod.fst) [] [some (.val a'), some (.val (.tup (ws.map D.str))), none] := by
    intro a' Q hQ
    refine lc_fl ps Prod.fst (fun p => zD p.2) (fun p => keepW ws p.2) rfl (fun p hp K hK => ?_) (by omega) ?_
    · obtain ⟨d, e⟩ := p
      have h : d = zD e ∨ d = zR e := hf (d, e) hp
      rcases h with rfl | rfl
      all_goals
        cases e with
        | inl w => exact ⟨_, atI_nat (j := 0) rfl, sh_word _, hs, hK _ rfl fun _ K2 h => h _ rfl⟩
        | inr h => exact ⟨_, atI_nat (j := 0) rfl, sh_hand, hs, hK _ rfl fun _ K2 h => h _ rfl⟩
    · have e : zsD ((eZ ps).filter (keepW ws)) = (ps.filter fun p => keepW ws p.2).map fun p => zD p.2 := by
        unfold zsD
        rw [List.filter_map, List.map_map]; rfl
      rw [e] at hQ
      exact hQ
  rcases ha with rfl | rfl
  · exact fin _ _ fun p => hC p
  · exact fin _ _ fun p => hC p
def g_same_handsP : FA := fun ds C => ∃ a ps b qs, ds = [a, b] ∧ Zp a ps ∧ Zp b qs ∧ ps.length ≤ 900 ∧ qs.length ≤ 900 ∧ handsZ (eZ ps) = handsZ (eZ qs) ∧ (∀ p, C (.own p (zsD (handsZ (eZ ps))))) ∧ C (.val (.lst (zsD (handsZ (eZ ps)))))
theorem handsP_le (ps : Prs) : (handsZ (eZ ps)).length ≤ ps.length := by
  have := hands_le (eZ ps)
  rw [List.length_map] at this
  exact this
theorem rd_same_handsP : ∀ ds C, ds.length = 2 → g_same_handsP ds C → T_same_hands g_entries_withP (EA C) (startA N_same_hands ds) := by
  rintro ds C - ⟨a, ps, b, qs, rfl, ha, hb, h1, h2, hh, hC, hV⟩
  have eW : keepW ["hand"] = isHz := funext keepW_hand
  refine ⟨by show (1 : Nat) ≤ sizeLine; decide, rfl, a, ps, ["hand"], rfl, ha, sh_h1, h1, fun p => ?_⟩
  refine ⟨by show (1 : Nat) ≤ sizeLine; decide, rfl, b, qs, ["hand"], rfl, hb, sh_h1, h2, fun q => ?_⟩
  rw [eW, show (eZ qs).filter isHz = (eZ ps).filter isHz from hh.symm]
  have l1 := handsP_le ps
  refine ⟨by show (-(2 ^ 62) : Int) ≤ max ((zsD (handsZ (eZ ps))).length : Int) ((zsD (handsZ (eZ ps))).length : Int); rw [zsD_len]; omega, by show max ((zsD (handsZ (eZ ps))).length : Int) ((zsD (handsZ (eZ ps))).length : Int) < 2 ^ 62; rw [zsD_len]; omega, ?_⟩
  refine fr_rg (handsZ (eZ ps)).length (fun j ρ => ∃ c2 c3 w4, (c2 = some (.own p (zsD (handsZ (eZ ps)))) ∨ c2 = some (.val (.lst (zsD (handsZ (eZ ps)))))) ∧ (c3 = some (.own q (zsD (handsZ (eZ ps)))) ∨ c3 = some (.val (.lst (zsD (handsZ (eZ ps)))))) ∧ ρ = [some (.val a), some (.val b), c2, c3, w4]) (by rw [zsD_len]; simp) ⟨_, _, _, .inl rfl, .inl rfl, rfl⟩ (fun j ρ K hj hI hK => ?_) (fun ρ hI => ?_)
  · obtain ⟨c2, c3, w4, e2, e3, rfl⟩ := hI
    have same : (!(D.lst (cutD (zsD (handsZ (eZ ps))) (some (j : Int)) (some ((j : Int) + 1)))).eqv (.lst (cutD (zsD (handsZ (eZ ps))) (some (j : Int)) (some ((j : Int) + 1))))) = false := by
      rw [zs_cut, zs_eqv]; rfl
    have shc : (D.lst (cutD (zsD (handsZ (eZ ps))) (some (j : Int)) (some ((j : Int) + 1)))).sh := by rw [zs_cut]; exact sh_zs _
    rcases e2 with rfl | rfl <;> rcases e3 with rfl | rfl
    all_goals exact ⟨shc, shc, ifF same (hK _ ⟨_, _, _, .inr rfl, .inr rfl, rfl⟩)⟩
  · obtain ⟨c2, c3, w4, e2, e3, rfl⟩ := hI
    rcases e2 with rfl | rfl
    · exact hC p
    · exact hV
structure FirstD (A B : List Ze) (j : Nat) : Prop where
  same : ∀ i, i < j → (A.drop i).take 1 = (B.drop i).take 1
  here : (A.drop j).take 1 ≠ (B.drop j).take 1
theorem FirstD.lt {A B : List Ze} {j : Nat} (h : FirstD A B j) : j < max A.length B.length := by
  rcases Nat.lt_or_ge j (max A.length B.length) with z | z
  · exact z
  · exact absurd (by rw [List.drop_eq_nil_of_le (by omega), List.drop_eq_nil_of_le (by omega)]) h.here
def gx_same_hands : FX := fun ds C => ∃ a ps b qs j, ds = [a, b] ∧ Zp a ps ∧ Zp b qs ∧ ps.length ≤ 900 ∧ qs.length ≤ 900 ∧ FirstD (handsZ (eZ ps)) (handsZ (eZ qs)) j ∧ C ⟨"Astray", .int (j : Int)⟩
theorem rng_cons (lo : Int) (n : Nat) : rangeD lo (n + 1) = .int lo :: rangeD (lo + 1) n := by
  unfold rangeD
  rw [List.range_succ_eq_map, List.map_cons, List.map_map]
  congr 1
  · simp
  · refine List.map_congr_left fun i _ => ?_
    show D.int (lo + ((i + 1 : Nat) : Int)) = D.int (lo + 1 + (i : Int))
    congr 1
    omega
theorem rdx_same_hands : ∀ ds C, ds.length = 2 → gx_same_hands ds C → TX_same_hands g_entries_withP okAny E0 (EX C) (startA N_same_hands ds) := by
  rintro ds C - ⟨a, ps, b, qs, j, rfl, ha, hb, h1, h2, hj, hC⟩
  have eW : keepW ["hand"] = isHz := funext keepW_hand
  refine ⟨by show (1 : Nat) ≤ sizeLine; decide, rfl, a, ps, ["hand"], rfl, ha, sh_h1, h1, fun p => ?_⟩
  refine ⟨by show (1 : Nat) ≤ sizeLine; decide, rfl, b, qs, ["hand"], rfl, hb, sh_h1, h2, fun q => ?_⟩
  rw [eW]
  have l1 := handsP_le ps
  have l2 := handsP_le qs
  have lj := hj.lt
  have em : (max ((zsD (handsZ (eZ ps))).length : Int) ((zsD (handsZ (eZ qs))).length : Int)).toNat = max (handsZ (eZ ps)).length (handsZ (eZ qs)).length := by rw [zsD_len, zsD_len]; omega
  refine ⟨by show (-(2 ^ 62) : Int) ≤ max ((zsD (handsZ (eZ ps))).length : Int) ((zsD (handsZ (eZ qs))).length : Int); rw [zsD_len, zsD_len]; omega, by show max ((zsD (handsZ (eZ ps))).length : Int) ((zsD (handsZ (eZ qs))).length : Int) < 2 ^ 62; rw [zsD_len, zsD_len]; omega, ?_⟩
  have key : ∀ (P : PEnds) (m k : Nat) (c2 c3 w4 : Option Cell), k ≤ j → j < k + m → (c2 = some (.own p (zsD (handsZ (eZ ps)))) ∨ c2 = some (.val (.lst (zsD (handsZ (eZ ps)))))) → (c3 = some (.own q (zsD (handsZ (eZ qs)))) ∨ c3 = some (.val (.lst (zsD (handsZ (eZ qs)))))) →
      xforW (hName 4) (xIfS (pTest (pOp fNe (pSl (pVar 2) (pPart (pVar 4)) (pPart (pOp fAdd (pVar 4) (pC (.int 1))))) (pSl (pVar 3) (pPart (pVar 4)) (pPart (pOp fAdd (pVar 4) (pC (.int 1))))))) (xRaise "Astray" okAny (pCons (pVar 4) pNil)) xNext) P (EX C) (rangeD (k : Int) m) [some (.val a), some (.val b), c2, c3, w4] := by
    intro P m
    induction m with
    | zero => intro k c2 c3 w4 hk hm; omega
    | succ m ih =>
      intro k c2 c3 w4 hk hm e2 e3
      rw [rng_cons]
      have s2 : (D.lst (cutD (zsD (handsZ (eZ ps))) (some (k : Int)) (some ((k : Int) + 1)))).sh := by rw [zs_cut]; exact sh_zs _
      have s3 : (D.lst (cutD (zsD (handsZ (eZ qs))) (some (k : Int)) (some ((k : Int) + 1)))).sh := by rw [zs_cut]; exact sh_zs _
      have ev : (!(D.lst (cutD (zsD (handsZ (eZ ps))) (some (k : Int)) (some ((k : Int) + 1)))).eqv (.lst (cutD (zsD (handsZ (eZ qs))) (some (k : Int)) (some ((k : Int) + 1))))) = !decide (((handsZ (eZ ps)).drop k).take 1 = ((handsZ (eZ qs)).drop k).take 1) := by rw [zs_cut, zs_cut, eqv_zs]
      by_cases hkj : k = j
      · subst hkj
        have t : (!(D.lst (cutD (zsD (handsZ (eZ ps))) (some (k : Int)) (some ((k : Int) + 1)))).eqv (.lst (cutD (zsD (handsZ (eZ qs))) (some (k : Int)) (some ((k : Int) + 1))))) = true := by rw [ev, decide_eq_false hj.here]; rfl
        rcases e2 with rfl | rfl <;> rcases e3 with rfl | rfl
        all_goals exact ⟨s2, s3, ifT t ⟨trivial, hC⟩⟩
      · have t : (!(D.lst (cutD (zsD (handsZ (eZ ps))) (some (k : Int)) (some ((k : Int) + 1)))).eqv (.lst (cutD (zsD (handsZ (eZ qs))) (some (k : Int)) (some ((k : Int) + 1))))) = false := by rw [ev, decide_eq_true (hj.same k (by omega))]; rfl
        have nxt := ih (k + 1) (some (.val (.lst (zsD (handsZ (eZ ps)))))) (some (.val (.lst (zsD (handsZ (eZ qs)))))) (some (.val (.int (k : Int)))) (by omega) (by omega) (.inr rfl) (.inr rfl)
        rw [show ((k + 1 : Nat) : Int) = (k : Int) + 1 by omega] at nxt
        rcases e2 with rfl | rfl <;> rcases e3 with rfl | rfl
        all_goals exact ⟨s2, s3, ifF t nxt⟩
  have := key { nx := fun ρ => xNext E0 (EX C) ρ, rt := E0.rt, bk := E0.bk, ct := E0.ct } (max (handsZ (eZ ps)).length (handsZ (eZ qs)).length) 0 _ _ none (Nat.zero_le _) (by omega) (.inl rfl) (.inl rfl)
  rw [← em] at this
  first | exact this | exact key _ _ 0 _ _ none (Nat.zero_le _) (by rw [em]; omega) (.inl rfl) (.inl rfl)
abbrev slDs (rs : List (List Int)) : List (List D) := rs.map dI
def joinH (xs : List D) : List (List D) → List (List D)
  | h :: t => (xs ++ h) :: t
  | [] => []
def g_slopes_between_k56 : FA := fun ds C => ∃ a ps, ds = [a] ∧ Zp a ps ∧ ps.length ≤ 900 ∧ ∀ r es, es.map Prod.snd = slDs (strS (eZ ps)) → C (mxB r es)
theorem rd_slopes_between_k56 : ∀ ds C, ds.length = 1 → g_slopes_between_k56 ds C → T_slopes_between_k56 g_is_hand (EA C) (startA N_slopes_between_k56 ds) := by
  rintro ds C - ⟨a, ps, rfl, ⟨ha, hf⟩, hl, hC⟩
  refine fun r b => ?_
  have key : ∀ (a' : D) (P : PEnds), (∀ es w2, es.map Prod.snd = slDs (strS (eZ ps)) → P.nx [some (.val a'), some (mxB r es), w2]) → forW (hName 2) (pIfS (pTest (pFrz (pCallA 1 g_is_hand (pCons (pVar 2) pNil)))) (pMxApp0 1) (pMxApp 1 (pUn fNeg (pC (.int 1))) (pIxO 2 (pC (.int 1))))) P (ps.map Prod.fst) [some (.val a'), some (mxB r [(b, [])]), none] := by
    intro a' P hP
    refine fr_mp ps Prod.fst (fun rr ρ => ∃ (m0 : List (Addr × List D)) (b : Addr) (xs : List D) (w2 : Option Cell), m0.map Prod.snd ++ joinH xs (slDs (strS (eZ rr))) = slDs (strS (eZ ps)) ∧ PrsF rr ∧ m0.length + rr.length ≤ ps.length ∧ xs.length + rr.length ≤ ps.length ∧ ρ = [some (.val a'), some (miB r (m0.map ownM ++ [Mi.own b xs])), w2]) rfl ⟨[], b, [], none, ?_, hf, by simp, by simp, rfl⟩ (fun p rr ρ K hI hK => ?_) (fun ρ hI => ?_)
    · obtain ⟨A, B, h⟩ := strS_some (eZ ps)
      rw [h]; rfl
    · obtain ⟨m0, b, xs, w2, h1, h2, h3, h4, rfl⟩ := hI
      obtain ⟨d, e⟩ := p
      have h3 : m0.length + (rr.length + 1) ≤ ps.length := h3
      have h4 : xs.length + (rr.length + 1) ≤ ps.length := h4
      have hd : ZnF d e := h2 (d, e) List.mem_cons_self
      have h2' : PrsF rr := fun x hx => h2 x (List.mem_cons_of_mem _ hx)
      obtain ⟨A, B, hAB⟩ := strS_some (eZ rr)
      refine ⟨rfl, d, e, rfl, hd, ?_⟩
      cases e with
      | inr h =>
        refine ifT (b := isHz (Sum.inr h)) rfl ?_
        refine ⟨r, _, rfl, by rw [List.length_append, List.length_map]; show m0.length + 1 < 1000; omega, fun b' => hK _ ⟨m0 ++ [(b, xs)], b', [], some (.val d), ?_, h2', by rw [List.length_append]; show m0.length + 1 + _ ≤ _; omega, by show 0 + _ ≤ _; omega, ?_⟩⟩
        · have e1 : strS (eZ ((d, Sum.inr h) :: rr)) = [] :: strS (eZ rr) := strS_hd
          rw [e1, hAB] at h1
          rw [hAB, ← h1, List.map_append]
          show (m0.map Prod.snd ++ [xs]) ++ (([] : List D) ++ dI A) :: slDs B = m0.map Prod.snd ++ (xs ++ []) :: dI A :: slDs B
          rw [List.append_assoc, List.append_nil]; rfl
        · rw [List.map_append]; rfl
      | inl w =>
        refine ifF (b := isHz (Sum.inl w)) rfl ?_
        have nx : K [some (.val a'), some (miB r (m0.map ownM ++ [Mi.own b (xs ++ [.int w.2])])), some (.val d)] := by
          refine hK _ ⟨m0, b, xs ++ [.int w.2], some (.val d), ?_, h2', by omega, by rw [List.length_append]; show xs.length + 1 + _ ≤ _; omega, rfl⟩
          have e1 : strS (eZ ((d, Sum.inl w) :: rr)) = (w.2 :: A) :: B := strS_wd hAB
          rw [e1] at h1
          rw [hAB, ← h1]
          show m0.map Prod.snd ++ ((xs ++ [D.int w.2]) ++ dI A) :: slDs B = m0.map Prod.snd ++ (xs ++ (D.int w.2 :: dI A)) :: slDs B
          rw [List.append_assoc]; rfl
        have hd : d = zD (.inl w) ∨ d = zR (.inl w) := hd
        rcases hd with rfl | rfl
        · exact ⟨r, m0.map ownM, b, ⟨xs, rfl⟩, rfl, ⟨xs, rfl⟩, _, atI_nat (j := 1) rfl, xs, rfl, Nat.lt_of_lt_of_le (show xs.length < 1000 by omega) (by decide), nx⟩
        · exact ⟨r, m0.map ownM, b, ⟨xs, rfl⟩, rfl, ⟨xs, rfl⟩, _, atI_nat (j := 1) rfl, xs, rfl, Nat.lt_of_lt_of_le (show xs.length < 1000 by omega) (by decide), nx⟩
    · obtain ⟨m0, b, xs, w2, h1, h2, h3, h4, rfl⟩ := hI
      have k := hP (m0 ++ [(b, xs)]) w2 (by rw [List.map_append, ← h1]; show _ ++ [xs] = _ ++ [xs ++ []]; rw [List.append_nil])
      show P.nx [some (.val a'), some (miB r (m0.map ownM ++ [Mi.own b xs])), w2]
      have e : m0.map ownM ++ [Mi.own b xs] = (m0 ++ [(b, xs)]).map ownM := by rw [List.map_append]; rfl
      rw [e]; exact k
  rcases ha with rfl | rfl
  · exact key _ _ fun es w2 h => hC r es h
  · exact key _ _ fun es w2 h => hC r es h
theorem trD_tri : ∀ (xs ys : List (Addr × List D)) (ds : List D), trD xs ys ds = tri (xs.map fun e => .lst e.2) (ys.map fun e => .lst e.2) ds
  | [], _, _ => rfl
  | _ :: _, [], _ => rfl
  | _ :: _, _ :: _, [] => rfl
  | x :: xs, y :: ys, d :: ds => by
    show D.tup [.lst x.2, .lst y.2, d] :: trD xs ys ds = _
    rw [trD_tri xs ys ds]; rfl
theorem rows_lst {es : List (Addr × List D)} {rs : List (List Int)} (h : es.map Prod.snd = slDs rs) : es.map (fun e => D.lst e.2) = rowsD rs := by
  have k := congrArg (List.map D.lst) h
  rw [List.map_map, List.map_map] at k
  exact k
def g_stretches_k56 : FA := fun ds C => ∃ a ps b qs, ds = [a, b] ∧ Zp a ps ∧ Zp b qs ∧ ps.length ≤ 900 ∧ qs.length ≤ 900 ∧ hzs (eZ ps) = hzs (eZ qs) ∧ ∀ r ss, ss.map Sti.dd = (partsZ (eZ ps) (eZ qs)).map ptD → C (stB r ss)
theorem rd_stretches_k56 : ∀ ds C, ds.length = 2 → g_stretches_k56 ds C → T_stretches_k56 g_slopes_between_k56 g_same_handsP (EA C) (startA N_stretches_k56 ds) := by
  rintro ds C - ⟨a, ps, b, qs, rfl, ha, hb, h1, h2, hh, hC⟩
  have hl := handsP_le ps
  have lh : (zsD (handsZ (eZ ps)) ++ [D.non]).length = (hzs (eZ ps)).length + 1 := by rw [zsD_hands, List.length_append, List.length_map]; rfl
  have sz : (zsD (handsZ (eZ ps)) ++ [D.non]).length ≤ sizeLine := Nat.le_trans (show _ ≤ 1000 by rw [List.length_append, zsD_len]; show _ + 1 ≤ _; omega) (by decide)
  have len : ∀ {es : List (Addr × List D)} {xs : List Ze}, es.map Prod.snd = slDs (strS xs) → es.length = (hzs xs).length + 1 := fun {es xs} h => by
    have := congrArg List.length h
    rw [List.length_map, List.length_map, strS_len] at this
    exact this
  have fin : ∀ (es1 es2 : List (Addr × List D)), es1.map Prod.snd = slDs (strS (eZ ps)) → es2.map Prod.snd = slDs (strS (eZ qs)) → ∀ r ss, ss.map Sti.dd = trD es1 es2 (zsD (handsZ (eZ ps)) ++ [D.non]) → C (stB r ss) := fun es1 es2 e1 e2 r ss h => by
    refine hC r ss ?_
    rw [h, trD_tri, rows_lst e1, rows_lst e2, parts_tri]
  refine ⟨rfl, a, ps, b, qs, rfl, ha, hb, h1, h2, by rw [handsZ_hzs, handsZ_hzs, hh], fun p => ?_, ?_⟩
  · exact ⟨rfl, a, ps, rfl, ha, h1, fun r1 es1 e1 => ⟨rfl, b, qs, rfl, hb, h2, fun r2 es2 e2 => ⟨sz, r1, es1, r2, es2, _, rfl, by rw [len e1, len e2, hh], by rw [len e1, lh], fin es1 es2 e1 e2⟩⟩⟩
  · exact ⟨rfl, a, ps, rfl, ha, h1, fun r1 es1 e1 => ⟨rfl, b, qs, rfl, hb, h2, fun r2 es2 e2 => ⟨sz, r1, es1, r2, es2, _, rfl, by rw [len e1, len e2, hh], by rw [len e1, lh], fin es1 es2 e1 e2⟩⟩⟩
def gx_stretches : FX := fun ds C => ∃ a ps b qs j, ds = [a, b] ∧ Zp a ps ∧ Zp b qs ∧ ps.length ≤ 900 ∧ qs.length ≤ 900 ∧ FirstD (handsZ (eZ ps)) (handsZ (eZ qs)) j ∧ C ⟨"Astray", .int (j : Int)⟩
theorem rdx_stretches : ∀ ds C, ds.length = 2 → gx_stretches ds C → TX_stretches g_slopes_between_k56 g_same_handsP gx_same_hands E0 (EX C) (startA N_stretches_k56 ds) := by
  rintro ds C - ⟨a, ps, b, qs, j, rfl, ha, hb, h1, h2, hj, hC⟩
  exact .inr ⟨rfl, a, ps, b, qs, j, rfl, ha, hb, h1, h2, hj, hC⟩
def g_long_many : FA := fun ds C => ∃ a es b fs, ds = [a, b] ∧ Zq a es ∧ Zq b fs ∧ es.length ≤ 900 ∧ fs.length ≤ 900 ∧ hzs es = hzs fs ∧ (∀ q ∈ partsZ es fs, q.1.length + q.2.1.length ≤ 60) ∧ ∀ m : Int, C (.val (.int m))
theorem nO_mul {a : Int} {c f : Nat} (h : c + f ≤ 60) : CMul a ((nO c f : Nat) : Int) := by
  have h1 := nO_le c f
  have h2 : (2 : Nat) ^ (c + f) ≤ 2 ^ 60 := Nat.pow_le_pow_right (by decide) h
  exact .inr ⟨by omega, by omega⟩
theorem own_parts (es fs : List Ze) : partsZ (eZ (ownPrs es)) (eZ (ownPrs fs)) = partsZ es fs := by unfold eZ; rw [own_snd, own_snd]
theorem own_hzs (es : List Ze) : hzs (eZ (ownPrs es)) = hzs es := by unfold eZ; rw [own_snd]
theorem own_len (es : List Ze) : (ownPrs es).length = es.length := List.length_map _
theorem rd_long_many : ∀ ds C, ds.length = 2 → g_long_many ds C → T_long_many g_orders_many g_stretches_k56 (EA C) (startA N_long_many ds) := by
  rintro ds C - ⟨a, es, b, fs, rfl, ha, hb, h1, h2, hh, hq, hC⟩
  refine ⟨rfl, a, ownPrs es, b, ownPrs fs, rfl, Zp.of ha, Zp.of hb, by rw [own_len]; omega, by rw [own_len]; omega, by rw [own_hzs, own_hzs, hh], fun r ss hss => ⟨r, ss, rfl, ?_⟩⟩
  rw [own_parts] at hss
  rw [hss]
  refine fr_mp (partsZ es fs) ptD (fun r ρ => ∃ (m : Int) (w3 w4 w5 : Option Cell), (∀ q ∈ r, q ∈ partsZ es fs) ∧ ρ = [some (.val a), some (.val b), some (.val (.int m)), w3, w4, w5]) rfl ⟨1, _, _, _, fun q h => h, rfl⟩ (fun q r ρ K hI hK => ?_) (fun ρ hI => ?_)
  · obtain ⟨m, w3, w4, w5, hin, rfl⟩ := hI
    have hm := hin q List.mem_cons_self
    have hs := hq q hm
    refine ⟨rfl, rfl, m, rfl, by show (0 : Nat) ≤ sizeLine; decide, rfl, _, q.1, _, q.2.1, _, [], rfl, .inr rfl, .inr rfl, .inl rfl, fun u hu => absurd hu (by simp), by simp, by omega, by omega, fun u hu => absurd hu (by simp), ?_⟩
    rw [many_nO]
    refine ⟨nO_mul hs, ?_⟩
    exact hK _ ⟨m * ((nO q.1.length q.2.1.length : Nat) : Int), some (.val (.lst (dI q.1))), some (.val (.lst (dI q.2.1))), some (.val (hoD q.2.2)), fun x hx => hin x (List.mem_cons_of_mem _ hx), rfl⟩
  · obtain ⟨m, w3, w4, w5, _, rfl⟩ := hI
    exact hC m
def gx_long_many : FX := fun ds C => ∃ a es b fs j, ds = [a, b] ∧ Zq a es ∧ Zq b fs ∧ es.length ≤ 900 ∧ fs.length ≤ 900 ∧ FirstD (handsZ es) (handsZ fs) j ∧ C ⟨"Astray", .int (j : Int)⟩
theorem own_eZ (es : List Ze) : eZ (ownPrs es) = es := own_snd es
theorem rdx_long_many : ∀ ds C, ds.length = 2 → gx_long_many ds C → TX_long_many g_orders_many g_stretches_k56 gx_stretches E0 (EX C) (startA N_long_many ds) := by
  rintro ds C - ⟨a, es, b, fs, j, rfl, ha, hb, h1, h2, hj, hC⟩
  exact .inr ⟨rfl, a, ownPrs es, b, ownPrs fs, j, rfl, Zp.of ha, Zp.of hb, by rw [own_len]; omega, by rw [own_len]; omega, by rw [own_eZ, own_eZ]; exact hj, hC⟩
def g_long_may_k56 : FA := g_long_may
theorem rd_long_may_k56 : ∀ ds C, ds.length = 3 → g_long_may_k56 ds C → T_long_may_k56 g_done g_stretches_k56 g_all_of_one_first (EA C) (startA N_long_may_k56 ds) := by
  rintro ds C - ⟨d, ns, a, es, b, fs, rfl, hd, hne, hl, ha, hb, h1, h2, hh, hp, hC⟩
  have ht := tot_parts es fs
  have hok : ∀ c, ∀ e ∈ allF c (partsZ es fs), okZ ns.length e := fun c => row_ok _ _ (allF_row c _) hp
  refine ⟨rfl, a, ownPrs es, b, ownPrs fs, rfl, Zp.of ha, Zp.of hb, by rw [own_len]; omega, by rw [own_len]; omega, by rw [own_hzs, own_hzs, hh], fun r ss hss => ⟨r, ss, rfl, ?_⟩⟩
  rw [own_parts] at hss
  rw [hss]
  refine ⟨rfl, _, true, rfl, by omega, fun p1 => ⟨rfl, done_own hd hne (by omega) (hok true) ?_⟩⟩
  refine ⟨rfl, _, false, rfl, by omega, fun p2 => ⟨rfl, done_own hd hne (by omega) (hok false) ?_⟩⟩
  exact ⟨by show (2 : Nat) ≤ sizeLine; decide, hC⟩
def gx_long_may : FX := fun ds C => ∃ d ns a es b fs, ds = [d, a, b] ∧ Sq d ns ∧ ns ≠ [] ∧ ns.length ≤ 900 ∧ Zq a es ∧ Zq b fs ∧ es.length ≤ 300 ∧ fs.length ≤ 300 ∧ ((∃ j : Nat, FirstD (handsZ es) (handsZ fs) j ∧ C ⟨"Astray", .int (j : Int)⟩) ∨
  (hzs es = hzs fs ∧ ∃ pre q v rest, allF true (partsZ es fs) = pre ++ .inr (q, v) :: rest ∧ (∀ e ∈ pre, okZ ns.length e) ∧ BadP ns.length q ∧ C ⟨"NoPost", .int q⟩))
theorem rdx_long_may : ∀ ds C, ds.length = 3 → gx_long_may ds C → TX_long_may g_done g_stretches_k56 g_all_of_one_first gx_done gx_stretches E0 (EX C) (startA N_long_may_k56 ds) := by
  rintro ds C - ⟨d, ns, a, es, b, fs, rfl, hd, hne, hl, ha, hb, h1, h2, h⟩
  rcases h with ⟨j, hj, hC⟩ | ⟨hh, pre, q, v, rest, he, ho, hq, hC⟩
  · exact .inr ⟨rfl, a, ownPrs es, b, ownPrs fs, j, rfl, Zp.of ha, Zp.of hb, by rw [own_len]; omega, by rw [own_len]; omega, by rw [own_eZ, own_eZ]; exact hj, hC⟩
  · have ht := tot_parts es fs
    refine .inl ⟨rfl, a, ownPrs es, b, ownPrs fs, rfl, Zp.of ha, Zp.of hb, by rw [own_len]; omega, by rw [own_len]; omega, by rw [own_hzs, own_hzs, hh], fun r ss hss => ⟨r, ss, rfl, ?_⟩⟩
    rw [own_parts] at hss
    rw [hss]
    refine .inr ⟨rfl, _, true, rfl, by omega, fun p1 => ⟨rfl, d, ns, ownPrs pre, q, v, zsD rest, ?_, hd, hne, by omega, own_F pre, by rw [own_snd]; exact ho, hq, hC⟩⟩
    rw [he, ← zsD_app, own_fst]; rfl
theorem book_of (es : List Ze) (c : Bool) : ∀ e ∈ keptZ c es, e ∈ es := fun e h => (List.mem_filter.mp h).1
def g__law_entries : FB := fun xs ds C => ∃ n, n ≤ 1000000 ∧ Bx n xs ∧ ds = [.int 6, .int 39] ∧ ∀ es r zs, es.length ≤ 39 → (∀ e ∈ es, okZ 6 e) → Bx (n + 2000) zs → C (.own r (zsD es)) zs
theorem rd__law_entries : ∀ a xs ds C, ds.length + 1 = 3 → g__law_entries xs ds C → T__law_entries (g_take 100000000000000) g__law_slope (EB a C) (startB N__law_entries a xs ds) := by
  rintro a0 xs ds C - ⟨n, hn, hB, rfl, hC⟩
  refine ⟨by show (0 : Nat) ≤ sizeLine; decide, fun r => ?_⟩
  refine ⟨xs, rfl, rfl, n, 40, by omega, hB, rfl, by decide, by decide, fun m z1 m0 m1 b1 => ⟨by omega, by omega, ?_⟩⟩
  obtain ⟨m, rfl⟩ := Int.eq_ofNat_of_zero_le m0
  refine fr_rg m (fun j ρ => ∃ (es : List Ze) (z : List D) (w4 w5 w6 w7 : Option Cell), es.length = j ∧ (∀ e ∈ es, okZ 6 e) ∧ Bx (n + 10 + 40 * j) z ∧ ρ = [some (.own a0 z), some (.val (.int 6)), some (.val (.int 39)), some (.own r (zsD es)), w4, w5, w6, w7]) rfl ⟨[], z1, none, none, none, none, rfl, fun _ h => absurd h List.not_mem_nil, b1.mono (by omega), rfl⟩ (fun j ρ K hj hI hK => ?_) (fun ρ hI => ?_)
  · obtain ⟨es, z, w4, w5, w6, w7, h1, h2, b2, rfl⟩ := hI
    have hj : j < 40 := by omega
    refine ⟨z, rfl, rfl, _, 5, by omega, b2, rfl, by decide, by decide, fun way z1 a1 a2 b3 => ?_⟩
    refine ⟨z1, rfl, rfl, _, 20, by omega, b3, rfl, by decide, by decide, fun u z2 u1 u2 b4 => ?_⟩
    refine ⟨z2, rfl, rfl, _, 20, by omega, b4, rfl, by decide, by decide, fun v z3 v1 v2 b5 => ⟨by show (4 : Nat) ≤ sizeLine; decide, ?_⟩⟩
    refine ⟨z3, rfl, rfl, _, 4, by omega, b5, rfl, by decide, by decide, fun t z4 t1 t2 b6 => ?_⟩
    obtain ⟨by', hby⟩ := atI_below (xs := [D.int 1, .int (-1), .int (1 + u), .int (-1 - v)]) t1 t2
    refine ⟨by', hby, ?_⟩
    obtain ⟨y, rfl⟩ : ∃ y, by' = .int y := by
      have := mem_of_atI hby
      simp at this
      rcases this with e | e | e | e <;> subst e <;> exact ⟨_, rfl⟩
    obtain ⟨wd, hwd⟩ := atI_below (xs := [D.str "cut", .str "fill"]) (i := way % 2) (by omega) (by show way % 2 < ((2 : Nat) : Int); omega)
    refine ⟨by show (2 : Nat) ≤ sizeLine; decide, by show (0 : Int) < 2; decide, wd, hwd, ?_⟩
    obtain ⟨c, rfl⟩ : ∃ c, wd = .str (wordS c) := by
      have := mem_of_atI hwd
      simp at this
      rcases this with e | e
      · exact ⟨true, e⟩
      · exact ⟨false, e⟩
    have lt : (zsD es).length < sizeLine := lt100 (by rw [zsD_len]; omega)
    have nx : ∀ (e : Ze) (z : List D) (w5 w6 w7 : Option Cell), okZ 6 e → Bx (n + 10 + 40 * (j + 1)) z → K [some (.own a0 z), some (.val (.int 6)), some (.val (.int 39)), some (.own r (zsD es ++ [zD e])), some (.val (.int (j : Int))), w5, w6, w7] := fun e z w5 w6 w7 oe b => by
      refine hK _ ⟨es ++ [e], z, some (.val (.int (j : Int))), w5, w6, w7, by rw [List.length_append, h1]; rfl, fun x hx => ?_, b, ?_⟩
      · rcases List.mem_append.mp hx with hx | hx
        · exact h2 x hx
        · rw [List.mem_singleton.mp hx]; exact oe
      · rw [← zsD_app]; rfl
    refine ⟨z4, rfl, rfl, _, by omega, b6, rfl, fun s z5 g0 g1 b7 => ⟨by show (2 : Nat) ≤ sizeLine; decide, sh_int _, sh_int _, ifB (fun _ => ?_) (fun _ => ?_)⟩⟩
    · refine ⟨z5, rfl, rfl, _, 6, by omega, b7, rfl, by decide, by decide, fun h z6 h1 h2 b8 => ⟨by show (3 : Nat) ≤ sizeLine; decide, _, rfl, lt, ?_⟩⟩
      exact nx (.inr (h, y)) z6 _ _ _ ⟨h1, h2⟩ (b8.mono (by omega))
    · exact ⟨_, rfl, lt, nx (.inl (c, s)) z5 _ _ _ g0 (b7.mono (by omega))⟩
  · obtain ⟨es, z, w4, w5, w6, w7, h1, h2, b2, rfl⟩ := hI
    exact ⟨z, rfl, hC es r z (by omega) h2 (b2.mono (by omega))⟩
def g__law_books_of : FA := fun ds C => ∃ es, ds = [.lst (zsD es)] ∧ es.length ≤ 900 ∧ ∀ p, C (.own p [.lst (zsD (keptZ true es)), .lst (zsD (keptZ false es))])
theorem rd__law_books_of : ∀ ds C, ds.length = 1 → g__law_books_of ds C → T__law_books_of (EA C) (startA N__law_books_of ds) := by
  rintro ds C - ⟨es, rfl, hl, hC⟩
  have s2 : (2 : Nat) ≤ sizeLine := by decide
  refine ⟨s2, ?_⟩
  refine lc_mp [true, false] (fun c => .str (wordS c)) (fun c => .lst (zsD (keptZ c es))) rfl (fun c _ K hK => ?_) (by decide) (fun p => hC p)
  refine lc_fl es zD zD (keepC c) rfl (fun e _ K2 h => ?_) (by omega) (hK _ rfl)
  have kw : keepW [wordS c, "hand"] e = keepC c e := keepW_two c e
  cases e with
  | inl w => exact ⟨_, atI_nat (j := 0) rfl, s2, sh_word _, sh_ch c, by rw [← kw] at h; exact h _ rfl fun _ K2 h => h _ rfl⟩
  | inr g => exact ⟨_, atI_nat (j := 0) rfl, s2, sh_hand, sh_ch c, by rw [← kw] at h; exact h _ rfl fun _ K2 h => h _ rfl⟩
def dueZ : List Int → List Int → List Ze → List Pt
  | c, f, [] => [(c, f, none)]
  | c, f, .inr h :: r => (c, f, some h) :: dueZ [] [] r
  | c, f, .inl (true, s) :: r => dueZ (c ++ [s]) f r
  | c, f, .inl (false, s) :: r => dueZ c (f ++ [s]) r
theorem due_spl : ∀ (es : List Ze) (c f : List Int), dueZ c f es = match (splZ es).map toP with | (a, b, h) :: t => (c ++ a, f ++ b, h) :: t | [] => []
  | [], c, f => by
    show [(c, f, none)] = [(c ++ slopesC true [], f ++ slopesC false [], none)]
    rw [show slopesC true [] = [] from rfl, show slopesC false [] = [] from rfl, List.append_nil, List.append_nil]
  | .inr h :: r, c, f => by
    show (c, f, some h) :: dueZ [] [] r = (c ++ slopesC true [], f ++ slopesC false [], some h) :: (splZ r).map toP
    obtain ⟨ws, hh, t, e⟩ := splZ_some r
    rw [due_spl r [] [], e, show slopesC true [] = [] from rfl, show slopesC false [] = [] from rfl, List.append_nil, List.append_nil]
    rfl
  | .inl (true, s) :: r, c, f => by
    obtain ⟨ws, hh, t, e⟩ := splZ_some r
    show dueZ (c ++ [s]) f r = _
    rw [due_spl r, splZ_wd e, e]
    show (c ++ [s] ++ slopesC true ws, f ++ slopesC false ws, hh) :: t.map toP = (c ++ slopesC true ((true, s) :: ws), f ++ slopesC false ((true, s) :: ws), hh) :: t.map toP
    rw [show slopesC true ((true, s) :: ws) = s :: slopesC true ws from rfl, show slopesC false ((true, s) :: ws) = slopesC false ws from rfl, List.append_assoc]; rfl
  | .inl (false, s) :: r, c, f => by
    obtain ⟨ws, hh, t, e⟩ := splZ_some r
    show dueZ c (f ++ [s]) r = _
    rw [due_spl r, splZ_wd e, e]
    show (c ++ slopesC true ws, f ++ [s] ++ slopesC false ws, hh) :: t.map toP = (c ++ slopesC true ((false, s) :: ws), f ++ slopesC false ((false, s) :: ws), hh) :: t.map toP
    rw [show slopesC true ((false, s) :: ws) = slopesC true ws from rfl, show slopesC false ((false, s) :: ws) = s :: slopesC false ws from rfl, List.append_assoc]; rfl
theorem due_parts (es : List Ze) : dueZ [] [] es = partsZ (keptZ true es) (keptZ false es) := by
  obtain ⟨ws, hh, t, e⟩ := splZ_some es
  rw [parts_own, due_spl, e]; rfl
def g__law_due : FA := fun ds C => ∃ es, ds = [.lst (zsD es)] ∧ es.length ≤ 100 ∧ C (.val (.lst ((partsZ (keptZ true es) (keptZ false es)).map ptD)))
theorem rd__law_due : ∀ ds C, ds.length = 1 → g__law_due ds C → T__law_due (EA C) (startA N__law_due ds) := by
  rintro ds C - ⟨es, rfl, hl, hC⟩
  have s0 : (0 : Nat) ≤ sizeLine := by decide
  have s1 : (1 : Nat) ≤ sizeLine := by decide
  have s3 : (3 : Nat) ≤ sizeLine := by decide
  refine ⟨s0, fun r1 => ⟨s0, fun r2 => ⟨s0, fun r3 => ?_⟩⟩⟩
  refine fr_mp es zD (fun rr ρ => ∃ (told : List Pt) (c f : List Int) (r2 r3 : Addr) (w4 : Option Cell), told ++ dueZ c f rr = dueZ [] [] es ∧ told.length + rr.length ≤ es.length ∧ c.length + rr.length ≤ es.length ∧ f.length + rr.length ≤ es.length ∧ ρ = [some (.val (.lst (zsD es))), some (.own r1 (told.map ptD)), some (.own r2 (dI c)), some (.own r3 (dI f)), w4]) rfl ⟨[], [], [], r2, r3, none, rfl, by simp, by simp, by simp, rfl⟩ (fun e rr ρ K hI hK => ?_) (fun ρ hI => ?_)
  · obtain ⟨told, c, f, r2, r3, w4, h1, h2, h3, h4, rfl⟩ := hI
    have h2 : told.length + (rr.length + 1) ≤ es.length := h2
    have h3 : c.length + (rr.length + 1) ≤ es.length := h3
    have h4 : f.length + (rr.length + 1) ≤ es.length := h4
    refine zD_at0 e ⟨sh_kindZ e, sh_hand, ?_⟩
    cases e with
    | inr h =>
      refine ifT (eqv_kindZ (.inr h)) ⟨s3, _, rfl, lt100 (by rw [List.length_map]; omega), s0, fun q2 => ⟨s0, fun q3 => ?_⟩⟩
      refine hK _ ⟨told ++ [(c, f, some h)], [], [], q2, q3, some (.val (zD (.inr h))), ?_, by rw [List.length_append]; show told.length + 1 + _ ≤ _; omega, by show 0 + _ ≤ _; omega, by show 0 + _ ≤ _; omega, ?_⟩
      · rw [List.append_assoc]; exact h1
      · rw [List.map_append]; rfl
    | inl w =>
      obtain ⟨wc, s⟩ := w
      refine ifF (eqv_kindZ (.inl (wc, s))) ⟨r2, r3, ⟨_, rfl⟩, ⟨_, rfl⟩, _, atI_nat (j := 0) rfl, sh_word _, sh_fill, ?_⟩
      cases wc with
      | true =>
        have e0 : (D.str (wordS true)).eqv (.str "fill") = false := by decide +kernel
        show ∃ j c', (((D.int (if (D.str (wordS true)).eqv (.str "fill") = true then 1 else 0)) = .int 0 ∧ j = 2 ∧ c' = r2) ∨ ((D.int (if (D.str (wordS true)).eqv (.str "fill") = true then 1 else 0)) = .int 1 ∧ j = 3 ∧ c' = r3)) ∧ _
        rw [e0]
        refine ⟨2, r2, .inl ⟨rfl, rfl, rfl⟩, ⟨_, rfl⟩, _, atI_nat (j := 1) rfl, _, rfl, lt100 (by rw [ints_len]; omega), ?_⟩
        refine hK _ ⟨told, c ++ [s], f, r2, r3, some (.val (zD (.inl (true, s)))), h1, by omega, by rw [List.length_append]; show c.length + 1 + _ ≤ _; omega, by omega, ?_⟩
        show [_, _, some (Cell.own r2 (dI c ++ [.int s])), _, _] = _
        unfold dI
        rw [List.map_append]; rfl
      | false =>
        have e0 : (D.str (wordS false)).eqv (.str "fill") = true := by decide +kernel
        show ∃ j c', (((D.int (if (D.str (wordS false)).eqv (.str "fill") = true then 1 else 0)) = .int 0 ∧ j = 2 ∧ c' = r2) ∨ ((D.int (if (D.str (wordS false)).eqv (.str "fill") = true then 1 else 0)) = .int 1 ∧ j = 3 ∧ c' = r3)) ∧ _
        rw [e0]
        refine ⟨3, r3, .inr ⟨rfl, rfl, rfl⟩, ⟨_, rfl⟩, _, atI_nat (j := 1) rfl, _, rfl, lt100 (by rw [ints_len]; omega), ?_⟩
        refine hK _ ⟨told, c, f ++ [s], r2, r3, some (.val (zD (.inl (false, s)))), h1, by omega, by omega, by rw [List.length_append]; show f.length + 1 + _ ≤ _; omega, ?_⟩
        show [_, _, _, some (Cell.own r3 (dI f ++ [.int s])), _] = _
        unfold dI
        rw [List.map_append]; rfl
  · obtain ⟨told, c, f, r2, r3, w4, h1, h2, h3, h4, rfl⟩ := hI
    refine ⟨s3, s1, Nat.le_trans (show _ ≤ 1000 by rw [List.length_map]; show told.length + 1 ≤ 1000; omega) (by decide), ?_⟩
    rw [← due_parts, ← h1, List.map_append] at hC
    exact hC
theorem first_bad {n : Nat} : ∀ (L : List Ze), (∃ e ∈ L, ¬ okZ n e) → ∃ pre e rest, L = pre ++ e :: rest ∧ (∀ x ∈ pre, okZ n x) ∧ ¬ okZ n e
  | [], ⟨_, h, _⟩ => absurd h List.not_mem_nil
  | x :: L, ⟨e, he, hb⟩ => by
    by_cases hx : okZ n x
    · rcases List.mem_cons.mp he with rfl | he
      · exact absurd hx hb
      · obtain ⟨pre, e', rest, h1, h2, h3⟩ := first_bad L ⟨e, he, hb⟩
        refine ⟨x :: pre, e', rest, by rw [h1]; rfl, fun y hy => ?_, h3⟩
        rcases List.mem_cons.mp hy with rfl | hy
        · exact hx
        · exact h2 y hy
    · exact ⟨[], x, L, rfl, fun y hy => absurd hy List.not_mem_nil, hx⟩
theorem hoZ_all {ps : List Pt} {q : Pt} {e : Ze} (hq : q ∈ ps) (he : e ∈ hoZ q.2.2) (c : Bool) : e ∈ allF c ps := List.mem_flatMap.mpr ⟨q, hq, List.mem_append_right _ he⟩
def g_toldK : FA := fun ds C => (∃ a ps b qs, ds = [.int 0, a, b] ∧ Zp a ps ∧ Zp b qs ∧ ps.length ≤ 100 ∧ qs.length ≤ 100 ∧ hzs (eZ ps) = hzs (eZ qs) ∧ ∀ r ss, ss.map Sti.dd = (partsZ (eZ ps) (eZ qs)).map ptD → C (stB r ss)) ∨
  ∃ (way : Int) (a : D) (es : List Ze) (b : D) (fs : List Ze), ds = [.int way, a, b] ∧ 0 ≤ way ∧ way < 3 ∧ Zq a es ∧ Zq b fs ∧ es.length ≤ 100 ∧ fs.length ≤ 100 ∧
    ((∃ j : Nat, FirstD (handsZ es) (handsZ fs) j ∧ C (.val (.tup [.str "astray", .int (j : Int)]))) ∨
     (hzs es = hzs fs ∧ (∀ e ∈ es, okZ 100 e) ∧ (∀ e ∈ fs, okZ 100 e) ∧ (∀ q ∈ partsZ es fs, q.1.length + q.2.1.length ≤ 60) ∧ ∀ c : Cell, C c))
theorem astrayD {C : Cell → Prop} {j : Int} {w0 w1 w2 w4 w5 w6 : Option Cell} (hC : C (.val (.tup [.str "astray", .int j]))) :
    (pSeq (pIfS (pTest (pOp fIsN (pVar 3) (pC .non))) (pRet (pMove 4)) pNext)
    (pSeq (pSet 6 (pVal (pAndV (pIsX [("Astray" : Str), ("Clash" : Str), ("NoPost" : Str)] [("Astray" : Str)] (pVar 3)) (pAndV (pIsX [("Astray" : Str), ("Clash" : Str), ("NoPost" : Str)] [("ValueError" : Str)] (pVar 3)) (pNotV (pIsX [("Astray" : Str), ("Clash" : Str), ("NoPost" : Str)] [("Clash" : Str), ("NoPost" : Str)] (pVar 3)))))))
    (pRet (pVal (pIf (pTest (pVar 6)) (pTup (pCons (pC (.str "astray")) (pCons (pXf [("Astray" : Str), ("Clash" : Str), ("NoPost" : Str)] "number" (pVar 3)) pNil))) (pC (.str "other"))))))) (EA C) [w0, w1, w2, some (.val (.exc "Astray" (.int j))), w4, w5, w6] := by
  have s2 : (2 : Nat) ≤ sizeLine := by decide
  have b1 : ([("Astray" : Str)].any (isaX "Astray")) = true := by decide +kernel
  have b2 : ([("ValueError" : Str)].any (isaX "Astray")) = true := by decide +kernel
  have b3 : ([("Clash" : Str), ("NoPost" : Str)].any (isaX "Astray")) = false := by decide +kernel
  refine ⟨by simp, ifT b1 ⟨by simp, ifT b2 ⟨by simp, ?_⟩⟩⟩
  rw [b3]
  exact ⟨by simp, rfl, s2, hC⟩
theorem rd_toldK : ∀ ds C, ds.length = 3 → g_toldK ds C → T__law_told g_stretches_k56 g_long_may_k56 g_long_many gx_stretches gx_long_may gx_long_many (EA C) (startA N__law_told ds) := by
  have s2 : (2 : Nat) ≤ sizeLine := by decide
  rintro ds C - (⟨a, ps, b, qs, rfl, ha, hb, h1, h2, hh, hC⟩ | ⟨way, a, es, b, fs, rfl, w0, w3, ha, hb, h1, h2, h⟩)
  · refine ⟨s2, rfl, rfl, Or.inl (Or.inl ⟨rfl, rfl, a, ps, b, qs, rfl, ha, hb, by omega, by omega, hh, fun r ss hss => ?_⟩)⟩
    exact hC r ss hss
  refine ⟨s2, rfl, rfl, ?_⟩
  rcases h with ⟨j, hj, hC⟩ | ⟨hh, o1, o2, hq, hC⟩
  · have m1 : ("Astray" : Str) ∈ [("Astray" : Str), ("Clash" : Str), ("NoPost" : Str)] := by simp
    by_cases w2 : way < 2
    · refine Or.inr (ifT (b := decide (way < 2)) (decide_eq_true w2) ?_)
      by_cases z : way = 0
      · subst z
        refine .inl ⟨rfl, rfl, a, ownPrs es, b, ownPrs fs, j, rfl, Zp.of ha, Zp.of hb, by rw [own_len]; omega, by rw [own_len]; omega, by rw [own_eZ, own_eZ]; exact hj, m1, ?_⟩
        exact astrayD hC
      · obtain rfl : way = 1 := by omega
        refine .inr ⟨rfl, rfl, a, es, b, fs, j, rfl, ha, hb, by omega, by omega, hj, m1, ?_⟩
        exact astrayD hC
    · refine Or.inr (ifF (b := decide (way < 2)) (decide_eq_false w2) ?_)
      refine ⟨by show (1 : Nat) ≤ sizeLine; decide, rfl, .tup [.int 0], [0], a, es, b, fs, rfl, .inl rfl, by simp, by simp, ha, hb, by omega, by omega, .inl ⟨j, hj, m1, ?_⟩⟩
      exact astrayD hC
  · have any : ∀ c : Cell, C c := hC
    by_cases w2 : way < 2
    · refine Or.inl (ifT (b := decide (way < 2)) (decide_eq_true w2) ?_)
      by_cases z : way = 0
      · subst z
        exact .inl ⟨rfl, rfl, a, ownPrs es, b, ownPrs fs, rfl, Zp.of ha, Zp.of hb, by rw [own_len]; omega, by rw [own_len]; omega, by rw [own_hzs, own_hzs, hh], fun r ss _ => any _⟩
      · obtain rfl : way = 1 := by omega
        exact .inr ⟨rfl, rfl, a, es, b, fs, rfl, ha, hb, by omega, by omega, hh, hq, fun m => any _⟩
    · have p100 := parts_ok o1 o2
      by_cases hg : ∀ q ∈ partsZ es fs, ∀ e ∈ hoZ q.2.2, okZ 1 e
      · refine Or.inl (ifF (b := decide (way < 2)) (decide_eq_false w2) ?_)
        exact ⟨by show (1 : Nat) ≤ sizeLine; decide, rfl, .tup [.int 0], [0], a, es, b, fs, rfl, .inl rfl, by simp, by simp, ha, hb, by omega, by omega, hh, fun q hq' => ⟨(p100 q hq').1, (p100 q hq').2.1, hg q hq'⟩, any _⟩
      · obtain ⟨q, hq', e, he, hne⟩ : ∃ q ∈ partsZ es fs, ∃ e ∈ hoZ q.2.2, ¬ okZ 1 e := by
          refine Classical.byContradiction fun z => hg fun q h1 e h2 => Classical.byContradiction fun h3 => z ⟨q, h1, e, h2, h3⟩
        obtain ⟨pre, e', rest, g1, g2, g3⟩ := first_bad (n := 1) (allF true (partsZ es fs)) ⟨e, hoZ_all hq' he true, hne⟩
        have ok100 : okZ 100 e' := row_ok _ _ (allF_row true _) p100 e' (by rw [g1]; simp)
        cases e' with
        | inl w => exact absurd ok100 g3
        | inr x =>
          obtain ⟨x, v⟩ := x
          refine Or.inr (ifF (b := decide (way < 2)) (decide_eq_false w2) ?_)
          refine ⟨by show (1 : Nat) ≤ sizeLine; decide, rfl, .tup [.int 0], [0], a, es, b, fs, rfl, .inl rfl, by simp, by simp, ha, hb, by omega, by omega, .inr ⟨hh, pre, x, v, rest, g1, g2, g3, by simp, ?_⟩⟩
          have b1 : ([("Astray" : Str)].any (isaX "NoPost")) = false := by decide +kernel
          refine ⟨by simp, ifF b1 ?_⟩
          exact any _
def wn : List Ze → Nat
  | [] => 0
  | .inl _ :: r => wn r + 1
  | .inr _ :: r => wn r
theorem wn_app : ∀ a b : List Ze, wn (a ++ b) = wn a + wn b
  | [], b => by simp [wn]
  | .inl _ :: r, b => by show wn (r ++ b) + 1 = wn r + 1 + wn b; rw [wn_app r b]; omega
  | .inr _ :: r, b => by show wn (r ++ b) = wn r + wn b; exact wn_app r b
theorem wn_hzs : ∀ es : List Ze, wn es + (hzs es).length = es.length
  | [] => rfl
  | .inl _ :: r => by show wn r + 1 + (hzs r).length = r.length + 1; have := wn_hzs r; omega
  | .inr _ :: r => by show wn r + ((hzs r).length + 1) = r.length + 1; have := wn_hzs r; omega
theorem wn_row {es : List Ze} {r : List Int} (h : r ∈ strS es) : r.length ≤ wn es := by
  have h1 := str_sum es
  have h2 := wn_hzs es
  have h3 : r.length ≤ ((strS es).map List.length).sum := by
    generalize strS es = L at h
    clear h1
    induction L with
    | nil => cases h
    | cons x L ih =>
      rw [List.map_cons, List.sum_cons]
      rcases List.mem_cons.mp h with rfl | h
      · omega
      · have := ih h; omega
  omega
theorem wn_parts {es fs : List Ze} : ∀ q ∈ partsZ es fs, q.1.length + q.2.1.length ≤ wn es + wn fs := fun q hq => by
  obtain ⟨x, y⟩ := q
  have m1 := wn_row (List.of_mem_zip hq).1
  have m2 := wn_row (List.of_mem_zip (List.of_mem_zip hq).2).1
  show x.length + y.1.length ≤ _
  omega
theorem wn_kept : ∀ es : List Ze, wn (keptZ true es) + wn (keptZ false es) ≤ es.length
  | [] => Nat.le_refl _
  | .inr h :: r => by
    have := wn_kept r
    show wn (keptZ true r) + wn (keptZ false r) ≤ r.length + 1
    omega
  | .inl (true, s) :: r => by
    have := wn_kept r
    show wn (keptZ true r) + 1 + wn (keptZ false r) ≤ r.length + 1
    omega
  | .inl (false, s) :: r => by
    have := wn_kept r
    show wn (keptZ true r) + (wn (keptZ false r) + 1) ≤ r.length + 1
    omega
theorem hpos_get : ∀ (es : List Ze) (k j : Nat), j ∈ hpos k es → k ≤ j ∧ ∃ h, es[j - k]? = some (.inr h)
  | .inr x :: r, k, j, h => by
    rcases List.mem_cons.mp (show j ∈ k :: hpos (k + 1) r from h) with rfl | h
    · exact ⟨Nat.le_refl _, x, by rw [Nat.sub_self]; rfl⟩
    · obtain ⟨h1, y, h2⟩ := hpos_get r (k + 1) j h
      exact ⟨by omega, y, by rw [show j - k = (j - (k + 1)) + 1 by omega, List.getElem?_cons_succ]; exact h2⟩
  | .inl x :: r, k, j, h => by
    obtain ⟨h1, y, h2⟩ := hpos_get r (k + 1) j h
    exact ⟨by omega, y, by rw [show j - k = (j - (k + 1)) + 1 by omega, List.getElem?_cons_succ]; exact h2⟩
  | [], _, _, h => by simp [hpos] at h
section
variable {a0 : Addr} {bk : List Ze} {zs : List D} {P : PEnds} {n k : Nat} {way : Int}
variable {w0 w1 w2 w3 w4 w5 w6 w7 w8 w9 w10 : Option Cell}
abbrev vZ (es : List Ze) : Option Cell := some (.val (.lst (zsD es)))
def g__law_bent : FB := fun xs ds C => ∃ n bk, ds = [.lst (zsD bk)] ∧ n ≤ 1000000 ∧ Bx n xs ∧ bk.length ≤ 39 ∧ (∀ e ∈ bk, okZ 100 e) ∧ ∀ es' zs, es'.length ≤ 41 → (∀ e ∈ es', okZ 100 e) → wn es' = wn bk → Bx (n + 10) zs → C (.val (.lst (zsD es'))) zs
set_option maxHeartbeats 1000000 in
theorem rd__law_bent : ∀ a xs ds C, ds.length + 1 = 2 → g__law_bent xs ds C → T__law_bent (g_take 100000000000000) g__law_of (EB a C) (startB N__law_bent a xs ds) := by
  rintro a0 xs ds C - ⟨n, bk, rfl, hn, hB, hl, ho, hC⟩
  have s0 : (0 : Nat) ≤ sizeLine := by decide
  have s1 : (1 : Nat) ≤ sizeLine := by decide
  have s2 : (2 : Nat) ≤ sizeLine := by decide
  have s3 : (3 : Nat) ≤ sizeLine := by decide
  have lz : (zsD bk).length ≤ 39 := by rw [zsD_len]; exact hl
  refine lc_enf bk zD (fun k _ => .int ((k : Nat) : Int)) (fun _ e => isHz e) rfl (fun k e _ K h => ?_) (by omega) ?_
  · refine ⟨rfl, rfl, ?_⟩
    have q : fIx (zD e) (.int 0) fun z => fEq z (.str "hand") fun y => ∃ b, y = .bl b ∧ K b [some (.own a0 xs), some (.val (.lst (zsD bk))), some (.val (.int (k : Int))), some (.val (zD e)), none, none, none, none, none, none, none] := zD_at0 e ⟨sh_kindZ e, sh_hand, _, rfl, by rw [eqv_kindZ]; exact h _ rfl fun _ K2 h2 => h2 _ rfl⟩
    cases e with
    | inl v => obtain ⟨x, e1, e2, e3, b, e4, e5⟩ := q; exact ⟨x, e1, e2, e3, by cases e4; exact e5⟩
    | inr v => obtain ⟨x, e1, e2, e3, b, e4, e5⟩ := q; exact ⟨x, e1, e2, e3, by cases e4; exact e5⟩
  have e1 : ((bk.zipIdx.filter fun z => isHz z.1).map fun z => D.int ((z.2 : Nat) : Int)) = dI ((hpos 0 bk).map fun k => ((k : Nat) : Int)) := by
    rw [← hpos_filter]; unfold dI; rw [List.map_map, List.map_map]; rfl
  rw [e1]
  have back : ∀ (zs : List D) (w2 w3 w4 w5 : Option Cell), Bx (n + 10) zs → ∃ ys, ([some (.own a0 zs), some (.val (.lst (zsD bk))), w2, w3, w4, w5, none, none, none, none, none] : Ro)[0]? = some (some (.own a0 ys)) ∧ C (.val (.lst (zsD bk ++ [.tup [.str "hand", .int 7, .int 1]]))) ys := fun zs w2 w3 w4 w5 hb => by
    have e : zsD bk ++ [.tup [.str "hand", .int 7, .int 1]] = zsD (bk ++ [.inr (7, 1)]) := by rw [← zsD_app]; rfl
    rw [e]
    refine ⟨zs, rfl, hC (bk ++ [.inr (7, 1)]) zs (by rw [List.length_append]; show bk.length + 1 ≤ 41; omega) (fun e he => ?_) (by rw [wn_app]; rfl) hb⟩
    rcases List.mem_append.mp he with he | he
    · exact ho e he
    · rw [List.mem_singleton.mp he]; exact ⟨by decide, by decide⟩
  have long : (zsD bk).length + 1 ≤ sizeLine := Nat.le_trans (show _ ≤ 100 by omega) (by decide)
  refine ⟨s0, sh_lstI _, sh_lstI [], ?_⟩
  show if (!(D.lst (dI ((hpos 0 bk).map fun k => ((k : Nat) : Int)))).eqv (.lst (dI []))) = true then _ else _
  rw [eqv_lstI]
  by_cases hne : (hpos 0 bk).map (fun k => ((k : Nat) : Int)) = []
  · rw [decide_eq_true hne]
    show _
    refine ⟨sh_int _, sh_int _, ?_⟩
    exact ⟨s3, s1, long, back xs none none _ _ (hB.mono (by omega))⟩
  · rw [decide_eq_false hne]
    show _
    refine ⟨xs, rfl, rfl, n, 4, by omega, hB, rfl, by decide, by decide, fun way z1 a1 a2 b1 => ⟨sh_int _, sh_int _, ifB (fun _ => ?_) (fun h3 => ?_)⟩⟩
    · exact ⟨s3, s1, long, back z1 none none _ _ (b1.mono (by omega))⟩
    have hw3 : way ≠ 3 := fun z => by (subst z; have h3 : (D.int 3).eqv (.int 3) = false := h3; rw [eqv_int] at h3; exact absurd h3 (by decide))
    refine ⟨z1, rfl, rfl, _, _, dI ((hpos 0 bk).map fun k => ((k : Nat) : Int)), by omega, b1, rfl, .inl rfl, by rw [ints_len]; exact List.length_pos_iff.mpr hne, by rw [ints_len, List.length_map]; have := hpos_len bk 0; omega, fun y z2 hy b2 => ?_⟩
    obtain ⟨k, hk, rfl⟩ : ∃ k, k ∈ hpos 0 bk ∧ y = .int ((k : Nat) : Int) := by
      unfold dI at hy
      rw [List.map_map] at hy
      obtain ⟨k, hk, rfl⟩ := List.mem_map.mp hy
      exact ⟨k, hk, rfl⟩
    obtain ⟨_, h, hat⟩ := hpos_get bk 0 k hk
    rw [Nat.sub_zero] at hat
    have hkl : k < bk.length := (List.getElem?_eq_some_iff.mp hat).1
    have hatD : atI (zsD bk) ((k : Nat) : Int) = some (zD (.inr h)) := atI_nat (by unfold zsD; rw [List.getElem?_map, hat]; rfl)
    refine ⟨_, hatD, rfl, rfl, ?_⟩
    refine ⟨s0, _, hatD, _, hatD, s2, s3, s1, s3, ?_⟩
    have split : bk = bk.take k ++ .inr h :: bk.drop (k + 1) := by
      have e2 : bk.drop k = .inr h :: bk.drop (k + 1) := by
        rw [List.drop_eq_getElem_cons hkl]
        congr 1
        have := List.getElem?_eq_getElem hkl
        rw [hat] at this
        exact (Option.some.inj this).symm
      rw [← e2, List.take_append_drop]
    have wnb : wn bk = wn (bk.take k) + wn (bk.drop (k + 1)) := by
      conv => lhs; rw [split]
      rw [wn_app]; rfl
    have lt : (bk.take k).length + 1 + (bk.drop (k + 1)).length = bk.length := by
      conv => rhs; rw [split]
      rw [List.length_append, List.length_cons]; omega
    have fin : ∀ (more : List Ze), more.length ≤ 2 → (∀ e ∈ more, okZ 100 e) → wn more = 0 → C (.val (.lst (zsD (bk.take k ++ more ++ bk.drop (k + 1))))) z2 := fun more h1 h2 h3 => by
      refine hC _ z2 (by rw [List.length_append, List.length_append]; omega) (fun e he => ?_) (by rw [wn_app, wn_app, wnb, h3]; omega) (b2.mono (by omega))
      rcases List.mem_append.mp he with he | he
      · rcases List.mem_append.mp he with he | he
        · exact ho e (List.mem_of_mem_take he)
        · exact h2 e he
      · exact ho e (List.mem_of_mem_drop he)
    have oh : okZ 100 (.inr h) := ho _ (List.mem_of_getElem? hat)
    have tk : ∀ more : List Ze, more.length ≤ 2 → (cutD (zsD bk) none (some ((k : Nat) : Int))).length + (zsD more).length ≤ sizeLine ∧ (cutD (zsD bk) none (some ((k : Nat) : Int)) ++ zsD more).length + (cutD (zsD bk) (some (((k : Nat) : Int) + 1)) none).length ≤ sizeLine ∧ cutD (zsD bk) none (some ((k : Nat) : Int)) ++ zsD more ++ cutD (zsD bk) (some (((k : Nat) : Int) + 1)) none = zsD (bk.take k ++ more ++ bk.drop (k + 1)) := fun more hm => by
      have c1 : cutD (zsD bk) none (some ((k : Nat) : Int)) = zsD (bk.take k) := by rw [cutD_to]; unfold zsD; rw [List.map_take]
      have c2 : cutD (zsD bk) (some (((k : Nat) : Int) + 1)) none = zsD (bk.drop (k + 1)) := by rw [show ((k : Nat) : Int) + 1 = ((k + 1 : Nat) : Int) by omega, cutD_from]; unfold zsD; rw [List.map_drop]
      rw [c1, c2, zsD_app, zsD_app]
      refine ⟨Nat.le_trans (show _ ≤ 100 by rw [zsD_len, zsD_len]; omega) (by decide), Nat.le_trans (show _ ≤ 100 by rw [zsD_len, zsD_len, List.length_append]; omega) (by decide), rfl⟩
    have hw : way = 0 ∨ way = 1 ∨ way = 2 := by omega
    rcases hw with rfl | rfl | rfl
    · obtain ⟨t1, t2, t3⟩ := tk [] (by decide)
      have k2 := fin [] (by decide) (fun e he => absurd he List.not_mem_nil) rfl
      rw [← t3] at k2
      exact ⟨.lst (zsD []), rfl, t1, t2, z2, rfl, k2⟩
    · obtain ⟨t1, t2, t3⟩ := tk [.inr h, .inr h] (by simp)
      have k2 := fin [.inr h, .inr h] (by simp) (fun e he => by
        rcases List.mem_cons.mp he with rfl | he
        · exact oh
        · rw [List.mem_singleton.mp he]; exact oh) rfl
      rw [← t3] at k2
      exact ⟨.lst (zsD [.inr h, .inr h]), rfl, t1, t2, z2, rfl, k2⟩
    · obtain ⟨t1, t2, t3⟩ := tk [.inr (h.1, h.2 + 100)] (by simp)
      have k2 := fin [.inr (h.1, h.2 + 100)] (by simp) (fun e he => by rw [List.mem_singleton.mp he]; exact oh) rfl
      rw [← t3] at k2
      exact ⟨.lst (zsD [.inr (h.1, h.2 + 100)]), rfl, t1, t2, z2, rfl, k2⟩
end
def slq (A B : List Ze) (k : Nat) : Bool := !decide ((A.drop k).take 1 = (B.drop k).take 1)
theorem sl_head (A : List Ze) (k : Nat) : ((A.drop k).take 1).head? = A[k]? := by
  cases h : A.drop k with
  | nil =>
    have : A.length ≤ k := by
      have := congrArg List.length h
      rw [List.length_drop] at this
      simp at this; omega
    rw [List.getElem?_eq_none this]; rfl
  | cons x r =>
    have := congrArg (fun l => l[0]?) h
    simp only [List.getElem?_drop] at this
    simpa using this.symm
theorem sl_all {A B : List Ze} (h : ∀ k, k < max A.length B.length → slq A B k = false) : A = B := by
  refine List.ext_getElem? fun k => ?_
  by_cases hk : k < max A.length B.length
  · have := h k hk
    unfold slq at this
    have e : (A.drop k).take 1 = (B.drop k).take 1 := by
      by_cases z : (A.drop k).take 1 = (B.drop k).take 1
      · exact z
      · rw [decide_eq_false z] at this; cases this
    rw [← sl_head, ← sl_head, e]
  · rw [List.getElem?_eq_none (by omega), List.getElem?_eq_none (by omega)]
theorem pl_nil (A : List Ze) (n : Nat) : (List.range n).filter (slq A A) = [] := by
  refine List.filter_eq_nil_iff.mpr fun k _ => ?_
  unfold slq
  rw [decide_eq_true rfl]; decide
theorem pl_first {A B : List Ze} (h : A ≠ B) : ∃ j rest, (List.range (max A.length B.length)).filter (slq A B) = j :: rest ∧ FirstD A B j := by
  cases e : (List.range (max A.length B.length)).filter (slq A B) with
  | nil =>
    refine absurd (sl_all fun k hk => ?_) h
    have := List.filter_eq_nil_iff.mp e k (List.mem_range.mpr hk)
    cases z : slq A B k with
    | false => rfl
    | true => exact absurd z this
  | cons j rest =>
    refine ⟨j, rest, rfl, ?_⟩
    obtain ⟨l1, l2, e1, e2, e3, e4⟩ := List.filter_eq_cons_iff.mp e
    have hj : j = l1.length := by
      have h1 : (List.range (max A.length B.length))[l1.length]? = some j := by rw [e1, List.getElem?_append_right (Nat.le_refl _), Nat.sub_self]; rfl
      have h2 := (List.getElem?_eq_some_iff.mp h1)
      obtain ⟨h3, h4⟩ := h2
      rw [List.getElem_range] at h4
      exact h4.symm
    have sm : ∀ k, slq A B k = false → (A.drop k).take 1 = (B.drop k).take 1 := fun k hk => by
      by_cases z : (A.drop k).take 1 = (B.drop k).take 1
      · exact z
      · unfold slq at hk; rw [decide_eq_false z] at hk; cases hk
    refine ⟨fun i hi => sm i ?_, fun z => ?_⟩
    · have hi2 : i < l1.length := by omega
      have h1 : (List.range (max A.length B.length))[i]? = some l1[i] := by rw [e1, List.getElem?_append_left hi2, List.getElem?_eq_getElem hi2]
      obtain ⟨h3, h4⟩ := List.getElem?_eq_some_iff.mp h1
      rw [List.getElem_range] at h4
      have := e2 l1[i] (List.getElem_mem hi2)
      rw [← h4] at this
      cases z : slq A B i with
      | false => rfl
      | true => exact absurd z this
    · unfold slq at e3
      rw [decide_eq_true z] at e3
      cases e3
theorem toL_zs (es : List Ze) : toL (.lst (zsD es)) = .lst (es.map zR) := by
  rw [toL, toLs_map]
  unfold zsD
  rw [List.map_map]
  congr 1
  refine List.map_congr_left fun e _ => ?_
  cases e <;> rfl
abbrev lstPrs (es : List Ze) : Prs := es.map fun e => (zR e, e)
theorem lst_fst (es : List Ze) : (lstPrs es).map Prod.fst = es.map zR := by rw [List.map_map]; rfl
theorem lst_eZ (es : List Ze) : eZ (lstPrs es) = es := by unfold eZ; rw [List.map_map]; exact List.map_id' es
theorem lst_F (es : List Ze) : PrsF (lstPrs es) := fun p hp => by
  obtain ⟨e, _, rfl⟩ := List.mem_map.mp hp
  exact .inr rfl
abbrev dueD (es : List Ze) : List D := (partsZ (keptZ true es) (keptZ false es)).map ptD
theorem okN_ptD {q : Pt} (h1 : q.1.length ≤ 1000) (h2 : q.2.1.length ≤ 1000) : okN 2 (ptD q) := ⟨by show (3 : Nat) ≤ 1000; decide, fun x hx => by
  rcases List.mem_cons.mp hx with rfl | hx
  · exact ⟨by rw [ints_len]; exact h1, fun y hy => by obtain ⟨i, _, rfl⟩ := List.mem_map.mp hy; trivial⟩
  rcases List.mem_cons.mp hx with rfl | hx
  · exact ⟨by rw [ints_len]; exact h2, fun y hy => by obtain ⟨i, _, rfl⟩ := List.mem_map.mp hy; trivial⟩
  · rw [List.mem_singleton.mp hx]
    obtain ⟨a, b, o⟩ := q
    cases o with
    | none => trivial
    | some h => exact okN_zD 0 (.inr h)⟩
theorem due_len {es : List Ze} (hl : es.length ≤ 39) : (dueD es).length ≤ 40 := by
  unfold dueD
  rw [List.length_map, parts_own, List.length_map]
  have := (spl_sum es).2
  omega
theorem due_each {es : List Ze} (hl : es.length ≤ 39) : ∀ q ∈ partsZ (keptZ true es) (keptZ false es), q.1.length + q.2.1.length ≤ 39 := fun q hq => by
  have h1 := wn_parts q hq
  have h2 := wn_kept es
  omega
theorem okN_due {es : List Ze} (hl : es.length ≤ 39) : okN 4 (.lst [.lst (dueD es), .lst (dueD es)]) := by
  have h : okN 3 (.lst (dueD es)) := ⟨by have := due_len hl; omega, fun x hx => by
    obtain ⟨q, hq, rfl⟩ := List.mem_map.mp hx
    have := due_each hl q hq
    exact okN_ptD (by omega) (by omega)⟩
  refine ⟨by show (2 : Nat) ≤ 1000; decide, fun x hx => ?_⟩
  rcases List.mem_cons.mp hx with rfl | hx
  · exact h
  · rw [List.mem_singleton.mp hx]; exact h
section
variable {a0 r r1 r2 : Addr} {es A B : List Ze} {zs : List D} {s1 s2 : List Sti} {P : PEnds} {n j : Nat}
abbrev rho2 (w0 : Option Cell) (w1 : Option Cell) (w2 : Option Cell) (w3 : Option Cell) (w4 : Option Cell) (w5 : Option Cell) (w6 : Option Cell) (w7 : Option Cell) (w8 : Option Cell) (w11 : Option Cell) (w12 : Option Cell) (w14 : Option Cell) (w15 : Option Cell) (w17 : Option Cell) : Ro := [w0, w1, w2, w3, w4, w5, w6, w7, w8, none, none, w11, w12, none, w14, w15, none, w17]
variable {w0 w1 w2 w3 w4 w5 w6 w7 w8 w11 w12 w14 w15 w17 : Option Cell}
abbrev vDu (es : List Ze) : Option Cell := some (.val (.lst (dueD es)))
theorem f1 (hB : Bx 0 zs) (hP : ∀ es r zs, es.length ≤ 39 → (∀ e ∈ es, okZ 6 e) → Bx 3000 zs → P.nx (rho2 (vo a0 zs) (vo r (zsD es)) w2 w3 w4 w5 w6 w7 w8 w11 w12 w14 w15 w17)) : T__law_right_1 g__law_entries P (rho2 (vo a0 zs) w1 w2 w3 w4 w5 w6 w7 w8 w11 w12 w14 w15 w17) :=
  ⟨zs, rfl, rfl, 0, by decide, hB, rfl, fun es r z h1 h2 b => hP es r z h1 h2 (b.mono (by omega))⟩
theorem f2 (hl : es.length ≤ 39) (hP : P.nx (rho2 w0 (vZ es) (vZ (keptZ true es)) (vZ (keptZ false es)) w4 w5 w6 w7 w8 w11 w12 w14 w15 w17)) : T__law_right_2 g__law_books_of P (rho2 w0 (vo r (zsD es)) w2 w3 w4 w5 w6 w7 w8 w11 w12 w14 w15 w17) :=
  ⟨rfl, es, rfl, by omega, fun p => ⟨rfl, rfl, hP⟩⟩
theorem f3 (hl : es.length ≤ 39) (hP : P.nx (rho2 w0 (vZ es) w2 w3 (vDu es) w5 w6 w7 w8 w11 w12 w14 w15 w17)) : T__law_right_3 g__law_due P (rho2 w0 (vZ es) w2 w3 w4 w5 w6 w7 w8 w11 w12 w14 w15 w17) :=
  ⟨rfl, es, rfl, by omega, hP⟩
theorem kept_len (c : Bool) (es : List Ze) : (keptZ c es).length ≤ es.length := List.length_filter_le _ _
theorem f4 (hl : es.length ≤ 39) (hP : ∀ r r1 s1 r2 s2, s1.map Sti.dd = dueD es → s2.map Sti.dd = dueD es → P.nx (rho2 w0 w1 (vZ (keptZ true es)) (vZ (keptZ false es)) w4 (some (twB r r1 s1 r2 s2)) w6 w7 w8 w11 w12 w14 w15 w17)) : T__law_right_4 (gL 4) g_toldK P (rho2 w0 w1 (vZ (keptZ true es)) (vZ (keptZ false es)) w4 w5 w6 w7 w8 w11 w12 w14 w15 w17) := by
  have k1 := kept_len true es
  have k2 := kept_len false es
  have hh : hzs (keptZ true es) = hzs (keptZ false es) := by rw [hzs_kept, hzs_kept]
  refine ⟨rfl, .inl ⟨_, ownPrs (keptZ true es), _, ownPrs (keptZ false es), rfl, Zp.of (.inl rfl), Zp.of (.inl rfl), by rw [own_len]; omega, by rw [own_len]; omega, by rw [own_hzs, own_hzs]; exact hh, fun r1 s1 e1 => ?_⟩⟩
  rw [own_parts] at e1
  refine ⟨rfl, .lst (zsD (keptZ true es)), rfl, okN_zs 1 (by omega), ?_⟩
  rw [toL_zs]
  refine ⟨rfl, .lst (zsD (keptZ false es)), rfl, okN_zs 1 (by omega), ?_⟩
  rw [toL_zs]
  refine ⟨rfl, .inl ⟨_, lstPrs (keptZ true es), _, lstPrs (keptZ false es), rfl, ⟨.inr (by rw [lst_fst]), lst_F _⟩, ⟨.inl (by rw [lst_fst]; rfl), lst_F _⟩, by rw [List.length_map]; omega, by rw [List.length_map]; omega, by rw [lst_eZ, lst_eZ]; exact hh, fun r2 s2 e2 => ?_⟩⟩
  rw [lst_eZ, lst_eZ] at e2
  exact ⟨r1, s1, r2, s2, rfl, fun r => hP r r1 s1 r2 s2 e1 e2⟩
theorem f5 (hl : es.length ≤ 39) (e1 : s1.map Sti.dd = dueD es) (e2 : s2.map Sti.dd = dueD es) (hP : P.nx (rho2 w0 w1 w2 w3 (vDu es) (some (twB r r1 s1 r2 s2)) w6 w7 w8 w11 w12 w14 w15 w17)) : T__law_right_5 (gS 5) P (rho2 w0 w1 w2 w3 (vDu es) (some (twB r r1 s1 r2 s2)) w6 w7 w8 w11 w12 w14 w15 w17) := by
  have hs2 : (2 : Nat) ≤ sizeLine := by decide
  refine ⟨r, ⟨r1, s1, r2, s2, rfl⟩, hs2, r1, s1, r2, s2, rfl, .lst [.lst (dueD es), .lst (dueD es)], ?_, okN_due hl, true, rfl, hP⟩
  unfold twD
  rw [e1, e2]
theorem f6 (hl : es.length ≤ 39) (e1 : s1.map Sti.dd = dueD es) (hP : ∀ s1' : List Sti, s1' ≠ [] → (∀ s ∈ s1', s.xs.length ≤ 101 ∧ s.ys.length ≤ 101) → P.nx (rho2 w0 w1 w2 w3 w4 (some (twB r r1 s1' r2 s2)) w6 w7 w8 w11 w12 w14 w15 w17)) : T__law_right_6 P (rho2 w0 w1 w2 w3 w4 (some (twB r r1 s1 r2 s2)) w6 w7 w8 w11 w12 w14 w15 w17) := by
  have hne : s1 ≠ [] := fun z => by
    rw [z] at e1
    have := congrArg List.length e1
    unfold dueD at this
    obtain ⟨ws, h, t, e⟩ := splZ_some es
    rw [parts_own, e] at this
    simp at this
  refine ⟨r, r1, s1, r2, s2, 100, rfl, hne, .inl rfl, .inl rfl, fun s hs => ?_, by decide, rfl, fun s1' h1 h2 => hP s1' (fun z => by rw [z] at h1; exact hne (List.length_eq_zero_iff.mp h1.symm)) h2⟩
  have : s.dd ∈ dueD es := by rw [← e1]; exact List.mem_map.mpr ⟨s, hs, rfl⟩
  obtain ⟨q, hq, h⟩ := List.mem_map.mp this
  have hh := due_each hl q hq
  have h : D.tup [.lst (dI q.1), .lst (dI q.2.1), hoD q.2.2] = .tup [.lst s.xs, .lst s.ys, s.d] := h
  injection h with h
  injection h with g1 h
  injection h with g2 h
  injection g1 with g1
  injection g2 with g2
  rw [← g1, ← g2, ints_len, ints_len]
  omega
theorem f7 (hne : s1 ≠ []) (hb : ∀ s ∈ s1, s.xs.length ≤ 101 ∧ s.ys.length ≤ 101) (hP : ∀ s1', P.nx (rho2 w0 w1 w2 w3 w4 (some (twB r r1 s1' r2 s2)) w6 w7 w8 w11 w12 w14 w15 w17)) : T__law_right_7 P (rho2 w0 w1 w2 w3 w4 (some (twB r r1 s1 r2 s2)) w6 w7 w8 w11 w12 w14 w15 w17) :=
  ⟨r, r1, s1, r2, s2, 101, rfl, hne, .inr rfl, .inr rfl, hb, by decide, rfl, fun s1' _ _ => hP s1'⟩
theorem f8 (hl : es.length ≤ 39) (e2 : s2.map Sti.dd = dueD es) (hP : P.nx (rho2 w0 w1 (vZ (keptZ true es)) (vZ (keptZ false es)) (vDu es) (some (twB r r1 s1 r2 s2)) w6 w7 w8 w11 w12 w14 w15 w17)) : T__law_right_8 (gS 5) g_toldK P (rho2 w0 w1 (vZ (keptZ true es)) (vZ (keptZ false es)) (vDu es) (some (twB r r1 s1 r2 s2)) w6 w7 w8 w11 w12 w14 w15 w17) := by
  have k1 := kept_len true es
  have k2 := kept_len false es
  have hs2 : (2 : Nat) ≤ sizeLine := by decide
  have hh : hzs (keptZ true es) = hzs (keptZ false es) := by rw [hzs_kept, hzs_kept]
  refine ⟨r, r2, s2, ⟨r1, s1, rfl⟩, rfl, .inl ⟨_, ownPrs (keptZ true es), _, ownPrs (keptZ false es), rfl, Zp.of (.inl rfl), Zp.of (.inl rfl), by rw [own_len]; omega, by rw [own_len]; omega, by rw [own_hzs, own_hzs]; exact hh, fun r3 s3 e3 => ?_⟩⟩
  rw [own_parts] at e3
  refine ⟨r3, s3, rfl, hs2, ⟨r1, s1, rfl⟩, .lst [.lst (dueD es), .lst (dueD es)], ?_, okN_due hl, true, rfl, hP⟩
  unfold twD
  rw [e2, show s3.map Sti.dd = dueD es from e3]
end
section
variable {a0 r r1 r2 : Addr} {es A B X Y : List Ze} {zs : List D} {s1 s2 : List Sti} {P : PEnds} {n j : Nat}
abbrev rho3 (w0 : Option Cell) (w1 : Option Cell) (w2 : Option Cell) (w3 : Option Cell) (w4 : Option Cell) (w5 : Option Cell) (w6 : Option Cell) (w7 : Option Cell) (w8 : Option Cell) (w11 : Option Cell) (w12 : Option Cell) (w14 : Option Cell) (w15 : Option Cell) (w17 : Option Cell) : Ro := [w0, w1, w2, w3, w4, w5, w6, w7, w8, none, none, w11, w12, none, w14, w15, none, w17]
variable {w0 w1 w2 w3 w4 w5 w6 w7 w8 w11 w12 w14 w15 w17 : Option Cell}
abbrev vPr (A B : List Ze) : Option Cell := some (.val (.tup [.lst (zsD A), .lst (zsD B)]))
abbrev vHs (A B : List Ze) : Option Cell := some (.val (.lst [.lst (zsD (handsZ A)), .lst (zsD (handsZ B))]))
theorem g91 {U : TSp} (hp : j % 2 = 0 ∨ j % 2 = 1) (hB : Bx n zs) (hn : n ≤ 1000000) (h1 : X.length ≤ 39) (h2 : Y.length ≤ 39) (o1 : ∀ e ∈ X, okZ 100 e) (o2 : ∀ e ∈ Y, okZ 100 e)
    (hP : ∀ zs w7 A B, Bx (n + 10) zs → A.length ≤ 41 → B.length ≤ 41 → (∀ e ∈ A, okZ 100 e) → (∀ e ∈ B, okZ 100 e) → wn A + wn B = wn X + wn Y → U P (rho3 (vo a0 zs) w1 (vZ X) (vZ Y) w4 w5 (vI (j : Int)) w7 (vPr A B) w11 w12 w14 w15 w17)) :
    (pSeq (T__law_right_9_1 g__law_bent) (pSeq T__law_right_9_2 U)) P (rho3 (vo a0 zs) w1 (vZ X) (vZ Y) w4 w5 (vI (j : Int)) w7 w8 w11 w12 w14 w15 w17) := by
  have hs2 : (2 : Nat) ≤ sizeLine := by decide
  rcases hp with hp | hp
  · have e : ((j : Int) % 2) = 0 := by omega
    have a1 : atI [D.lst (zsD X), .lst (zsD Y)] ((j : Int) % 2) = some (.lst (zsD X)) := by rw [e]; rfl
    refine ⟨hs2, by show (0 : Int) < 2; decide, _, a1, zs, rfl, rfl, n, X, rfl, hn, hB, h1, o1, fun A z l1 k1 w1 b => ?_⟩
    have a2 : atI [D.tup [.lst (zsD A), .lst (zsD Y)], .tup [.lst (zsD X), .lst (zsD A)]] ((j : Int) % 2) = some (.tup [.lst (zsD A), .lst (zsD Y)]) := by rw [e]; rfl
    exact ⟨hs2, hs2, hs2, by show (0 : Int) < 2; decide, _, a2, hP z _ A Y b l1 (by omega) k1 o2 (by omega)⟩
  · have e : ((j : Int) % 2) = 1 := by omega
    have a1 : atI [D.lst (zsD X), .lst (zsD Y)] ((j : Int) % 2) = some (.lst (zsD Y)) := by rw [e]; rfl
    refine ⟨hs2, by show (0 : Int) < 2; decide, _, a1, zs, rfl, rfl, n, Y, rfl, hn, hB, h2, o2, fun A z l1 k1 w1 b => ?_⟩
    have a2 : atI [D.tup [.lst (zsD A), .lst (zsD Y)], .tup [.lst (zsD X), .lst (zsD A)]] ((j : Int) % 2) = some (.tup [.lst (zsD X), .lst (zsD A)]) := by rw [e]; rfl
    exact ⟨hs2, hs2, hs2, by show (0 : Int) < 2; decide, _, a2, hP z _ X A b (by omega) l1 o1 k1 (by omega)⟩
theorem g93 (h1 : A.length ≤ 41) (h2 : B.length ≤ 41) (hP : P.nx (rho3 w0 w1 w2 w3 w4 w5 w6 w7 (vPr A B) (vHs A B) w12 w14 w15 w17)) : T__law_right_9_3 P (rho3 w0 w1 w2 w3 w4 w5 w6 w7 (vPr A B) w11 w12 w14 w15 w17) := by
  refine lc_mp [A, B] (fun L => .lst (zsD L)) (fun L => .lst (zsD (handsZ L))) rfl (fun L hL K hK => ?_) (by show (2 : Nat) ≤ 1000; decide) hP
  have hl : L.length ≤ 41 := by
    rcases List.mem_cons.mp hL with rfl | hL
    · exact h1
    · rw [List.mem_singleton.mp hL]; exact h2
  refine lc_fl L zD zD isHz rfl (fun e _ K2 h => ?_) (by omega) (hK _ rfl)
  have kw : (D.str (kindZ e)).eqv (.str "hand") = isHz e := eqv_kindZ e
  rw [← kw] at h
  cases e with
  | inl w => exact ⟨_, atI_nat (j := 0) rfl, sh_word _, sh_hand, h _ rfl fun _ K3 h3 => h3 _ rfl⟩
  | inr x => exact ⟨_, atI_nat (j := 0) rfl, sh_hand, sh_hand, h _ rfl fun _ K3 h3 => h3 _ rfl⟩
theorem g94 (hP : P.nx (rho3 w0 w1 w2 w3 w4 w5 w6 w7 w8 (vHs A B) (vI ((max (handsZ A).length (handsZ B).length : Nat) : Int)) w14 w15 w17)) : T__law_right_9_4 P (rho3 w0 w1 w2 w3 w4 w5 w6 w7 w8 (vHs A B) w12 w14 w15 w17) := by
  refine ⟨_, rfl, _, rfl, ?_⟩
  have e : max ((zsD (handsZ A)).length : Int) ((zsD (handsZ B)).length : Int) = ((max (handsZ A).length (handsZ B).length : Nat) : Int) := by rw [zsD_len, zsD_len]; omega
  show P.nx (rho3 w0 w1 w2 w3 w4 w5 w6 w7 w8 (vHs A B) (vI (max ((zsD (handsZ A)).length : Int) ((zsD (handsZ B)).length : Int))) w14 w15 w17)
  rw [e]
  exact hP
theorem g95 (h1 : A.length ≤ 41) (h2 : B.length ≤ 41) (hP : P.nx (rho3 w0 w1 w2 w3 w4 w5 w6 w7 w8 (vHs A B) (vI ((max (handsZ A).length (handsZ B).length : Nat) : Int)) (some (.val (.lst (dI (((List.range (max (handsZ A).length (handsZ B).length)).filter (slq (handsZ A) (handsZ B))).map fun k => ((k : Nat) : Int)))))) w15 w17)) :
    T__law_right_9_5 P (rho3 w0 w1 w2 w3 w4 w5 w6 w7 w8 (vHs A B) (vI ((max (handsZ A).length (handsZ B).length : Nat) : Int)) w14 w15 w17) := by
  have l1 := hands_le A
  have l2 := hands_le B
  refine ⟨by show (-(2 ^ 62) : Int) ≤ _; omega, by show (_ : Int) < 2 ^ 62; omega, ?_⟩
  have ed : rangeD 0 ((max (handsZ A).length (handsZ B).length : Nat) : Int).toNat = (List.range (max (handsZ A).length (handsZ B).length)).map fun (k : Nat) => D.int (k : Int) := by rw [Int.toNat_natCast]; exact rangeD_nat _
  refine lc_fl (List.range (max (handsZ A).length (handsZ B).length)) (fun k => .int ((k : Nat) : Int)) (fun k => .int ((k : Nat) : Int)) (slq (handsZ A) (handsZ B)) ed (fun k _ K h => ?_) (by rw [List.length_range]; omega) ?_
  · have c : ∀ L : List Ze, cutD (zsD L) (some (k : Int)) (some ((k : Int) + 1)) = zsD ((L.drop k).take 1) := fun L => zs_cut L k
    have sA : (D.lst (cutD (zsD (handsZ A)) (some (k : Int)) (some ((k : Int) + 1)))).sh := by rw [c]; exact sh_zs _
    have sB : (D.lst (cutD (zsD (handsZ B)) (some (k : Int)) (some ((k : Int) + 1)))).sh := by rw [c]; exact sh_zs _
    have kw : (!(D.lst (cutD (zsD (handsZ A)) (some (k : Int)) (some ((k : Int) + 1)))).eqv (.lst (cutD (zsD (handsZ B)) (some (k : Int)) (some ((k : Int) + 1))))) = slq (handsZ A) (handsZ B) k := by rw [c, c, eqv_zs]; rfl
    rw [← kw] at h
    exact ⟨_, rfl, _, rfl, sA, sB, h _ rfl fun _ K2 h2 => h2 _ rfl⟩
  · unfold dI at hP
    rw [List.map_map] at hP
    exact hP
abbrev wr (j : Nat) : D := .tup [.str "astray", .int (j : Int)]
theorem g96n (hP : P.nx (rho3 w0 w1 w2 w3 w4 w5 w6 w7 w8 w11 w12 (some (.val (.lst []))) (some (.val .non)) w17)) : T__law_right_9_6 P (rho3 w0 w1 w2 w3 w4 w5 w6 w7 w8 w11 w12 (some (.val (.lst []))) w15 w17) := by
  have s0 : (0 : Nat) ≤ sizeLine := by decide
  refine ⟨s0, sh_lstI [], sh_lstI [], ifF ?_ hP⟩
  show (!(D.lst (dI [])).eqv (.lst (dI []))) = false
  rw [eqv_lstI]; rfl
theorem g96j {k : Nat} {rest : List Nat} (hP : P.nx (rho3 w0 w1 w2 w3 w4 w5 w6 w7 w8 w11 w12 (some (.val (.lst (dI ((k :: rest).map fun k => ((k : Nat) : Int)))))) (some (.val (wr k))) w17)) : T__law_right_9_6 P (rho3 w0 w1 w2 w3 w4 w5 w6 w7 w8 w11 w12 (some (.val (.lst (dI ((k :: rest).map fun k => ((k : Nat) : Int)))))) w15 w17) := by
  have s0 : (0 : Nat) ≤ sizeLine := by decide
  have hs2 : (2 : Nat) ≤ sizeLine := by decide
  refine ⟨s0, sh_lstI _, sh_lstI [], ifT ?_ ⟨_, atI_nat (j := 0) rfl, hs2, hP⟩⟩
  show (!(D.lst (dI ((k :: rest).map fun k => ((k : Nat) : Int)))).eqv (.lst (dI []))) = true
  rw [eqv_lstI]; simp
theorem hands_eq {A B : List Ze} (h : handsZ A = handsZ B) : hzs A = hzs B := by
  rw [handsZ_hzs, handsZ_hzs] at h
  have := congrArg (List.map fun e : Ze => match e with | .inl _ => ((0 : Int), (0 : Int)) | .inr x => x) h
  rw [List.map_map, List.map_map] at this
  have e : ∀ l : List (Int × Int), l.map ((fun e : Ze => match e with | .inl _ => ((0 : Int), (0 : Int)) | .inr x => x) ∘ Sum.inr) = l := fun l => by
    have : ((fun e : Ze => match e with | .inl _ => ((0 : Int), (0 : Int)) | .inr x => x) ∘ Sum.inr) = (id : Int × Int → Int × Int) := rfl
    rw [this, List.map_id]
  rwa [e, e] at this
theorem g97e (h1 : A.length ≤ 41) (h2 : B.length ≤ 41) (o1 : ∀ e ∈ A, okZ 100 e) (o2 : ∀ e ∈ B, okZ 100 e) (hw : wn A + wn B ≤ 39) (hh : handsZ A = handsZ B) (hP : ∀ w17, P.nx (rho3 w0 w1 w2 w3 w4 w5 w6 w7 (vPr A B) w11 w12 w14 w15 w17)) : T__law_right_9_7 g_toldK P (rho3 w0 w1 w2 w3 w4 w5 w6 w7 (vPr A B) w11 w12 w14 w15 w17) := by
  have hz := hands_eq hh
  have hq : ∀ q ∈ partsZ A B, q.1.length + q.2.1.length ≤ 60 := fun q hq => by have := wn_parts q hq; omega
  refine ⟨by show (-(2 ^ 62) : Int) ≤ 3; decide, by show (3 : Int) < 2 ^ 62; decide, ?_⟩
  refine ⟨_, rfl, _, rfl, rfl, .inr ⟨0, _, A, _, B, rfl, by decide, by decide, .inl rfl, .inl rfl, by omega, by omega, .inr ⟨hz, o1, o2, hq, fun c => ⟨by show (0 : Nat) < sizeLine; decide, ?_⟩⟩⟩⟩
  refine ⟨_, rfl, _, rfl, rfl, .inr ⟨1, _, A, _, B, rfl, by decide, by decide, .inl rfl, .inl rfl, by omega, by omega, .inr ⟨hz, o1, o2, hq, fun c2 => ⟨by show (1 : Nat) < sizeLine; decide, ?_⟩⟩⟩⟩
  exact ⟨_, rfl, _, rfl, rfl, .inr ⟨2, _, A, _, B, rfl, by decide, by decide, .inl rfl, .inl rfl, by omega, by omega, .inr ⟨hz, o1, o2, hq, fun c3 => ⟨by show (2 : Nat) < sizeLine; decide, hP _⟩⟩⟩⟩
theorem g97j {k : Nat} (h1 : A.length ≤ 41) (h2 : B.length ≤ 41) (hj : FirstD (handsZ A) (handsZ B) k) (hP : P.nx (rho3 w0 w1 w2 w3 w4 w5 w6 w7 (vPr A B) w11 w12 w14 w15 (some (.val (.lst [wr k, wr k, wr k]))))) : T__law_right_9_7 g_toldK P (rho3 w0 w1 w2 w3 w4 w5 w6 w7 (vPr A B) w11 w12 w14 w15 w17) := by
  refine ⟨by show (-(2 ^ 62) : Int) ≤ 3; decide, by show (3 : Int) < 2 ^ 62; decide, ?_⟩
  refine ⟨_, rfl, _, rfl, rfl, .inr ⟨0, _, A, _, B, rfl, by decide, by decide, .inl rfl, .inl rfl, by omega, by omega, .inl ⟨k, hj, by show (0 : Nat) < sizeLine; decide, ?_⟩⟩⟩
  refine ⟨_, rfl, _, rfl, rfl, .inr ⟨1, _, A, _, B, rfl, by decide, by decide, .inl rfl, .inl rfl, by omega, by omega, .inl ⟨k, hj, by show (1 : Nat) < sizeLine; decide, ?_⟩⟩⟩
  exact ⟨_, rfl, _, rfl, rfl, .inr ⟨2, _, A, _, B, rfl, by decide, by decide, .inl rfl, .inl rfl, by omega, by omega, .inl ⟨k, hj, by show (2 : Nat) < sizeLine; decide, hP⟩⟩⟩
theorem g98n (hP : P.nx (rho3 w0 w1 w2 w3 w4 w5 w6 w7 w8 w11 w12 w14 (some (.val .non)) w17)) : T__law_right_9_8 (gS 5) P (rho3 w0 w1 w2 w3 w4 w5 w6 w7 w8 w11 w12 w14 (some (.val .non)) w17) := hP
theorem okN_wr (k : Nat) : okN 3 (wr k) := ⟨by show (2 : Nat) ≤ 1000; decide, fun x hx => by
  rcases List.mem_cons.mp hx with rfl | hx
  · show (D.str "astray").sh
    unfold D.sh; decide +kernel
  · rw [List.mem_singleton.mp hx]; trivial⟩
theorem g98j {k : Nat} (hP : ∀ w17, P.nx (rho3 w0 w1 w2 w3 w4 w5 w6 w7 w8 w11 w12 w14 (some (.val (wr k))) w17)) : T__law_right_9_8 (gS 5) P (rho3 w0 w1 w2 w3 w4 w5 w6 w7 w8 w11 w12 w14 (some (.val (wr k))) (some (.val (.lst [wr k, wr k, wr k])))) := by
  have s1 : (1 : Nat) ≤ sizeLine := by decide
  refine ⟨s1, by decide, by decide, by show (1 : Nat) ≤ 1000; decide, rfl, .lst [wr k, wr k, wr k], rfl, ⟨by show (3 : Nat) ≤ 1000; decide, fun x hx => ?_⟩, hP _⟩
  have : x = wr k := by simpa using hx
  rw [this]; exact okN_wr k
theorem ok_up {e : Ze} (h : okZ 6 e) : okZ 100 e := by
  cases e with
  | inl w => exact h
  | inr x => exact ⟨h.1, by have := h.2; omega⟩
theorem f9 (hl : es.length ≤ 39) (ho : ∀ e ∈ es, okZ 6 e) (hB : Bx 3000 zs) (hP : ∀ zs w6 w7 w8 w11 w12 w14 w15 w17, P.nx (rho3 (vo a0 zs) w1 (vZ (keptZ true es)) (vZ (keptZ false es)) w4 w5 w6 w7 w8 w11 w12 w14 w15 w17)) :
    T__law_right_9 (gS 5) g_toldK g__law_bent P (rho3 (vo a0 zs) w1 (vZ (keptZ true es)) (vZ (keptZ false es)) w4 w5 w6 w7 w8 w11 w12 w14 w15 w17) := by
  have k1 := kept_len true es
  have k2 := kept_len false es
  have kw := wn_kept es
  have o1 : ∀ e ∈ keptZ true es, okZ 100 e := fun e h => ok_up (ho e (book_of es true e h))
  have o2 : ∀ e ∈ keptZ false es, okZ 100 e := fun e h => ok_up (ho e (book_of es false e h))
  refine ⟨by show (-(2 ^ 62) : Int) ≤ 4; decide, by show (4 : Int) < 2 ^ 62; decide, ?_⟩
  refine fr_rg 4 (fun j ρ => ∃ (z : List D) (w6 w7 w8 w11 w12 w14 w15 w17 : Option Cell), Bx (3000 + 100 * j) z ∧ ρ = (rho3 (vo a0 z) w1 (vZ (keptZ true es)) (vZ (keptZ false es)) w4 w5 w6 w7 w8 w11 w12 w14 w15 w17)) rfl ⟨zs, w6, w7, w8, w11, w12, w14, w15, w17, hB, rfl⟩ (fun j ρ K hj hI hK => ?_) (fun ρ hI => ?_)
  · obtain ⟨z, w6, w7, w8, w11, w12, w14, w15, w17, b1, rfl⟩ := hI
    refine g91 (X := keptZ true es) (Y := keptZ false es) (j := j) (by omega) b1 (by omega) (by omega) (by omega) o1 o2 fun z w7 A B b2 l1 l2 a1 a2 hw => ?_
    refine g93 l1 l2 ?_
    refine g94 ?_
    refine g95 l1 l2 ?_
    have nx : ∀ w7 w8 w11 w12 w14 w15 w17, K (rho3 (vo a0 z) w1 (vZ (keptZ true es)) (vZ (keptZ false es)) w4 w5 (vI (j : Int)) w7 w8 w11 w12 w14 w15 w17) := fun w7 w8 w11 w12 w14 w15 w17 => hK _ ⟨z, some (.val (.int (j : Int))), w7, w8, w11, w12, w14, w15, w17, b2.mono (by omega), rfl⟩
    by_cases hh : handsZ A = handsZ B
    · have e : (List.range (max (handsZ A).length (handsZ B).length)).filter (slq (handsZ A) (handsZ B)) = [] := by rw [← hh]; exact pl_nil _ _
      rw [e]
      refine g96n ?_
      refine g97e l1 l2 a1 a2 (by omega) hh fun w17 => ?_
      exact g98n (nx _ _ _ _ _ _ _)
    · obtain ⟨k, rest, e, hf⟩ := pl_first hh
      rw [e]
      refine g96j ?_
      refine g97j l1 l2 hf ?_
      exact g98j fun w17 => nx _ _ _ _ _ _ _
  · obtain ⟨z, w6, w7, w8, w11, w12, w14, w15, w17, b1, rfl⟩ := hI
    exact hP z w6 w7 w8 w11 w12 w14 w15 w17
end
def g__law_right : FB := fun xs ds C => Bx 0 xs ∧ ds = [] ∧ ∀ ys, C (.val (.bl true)) ys
theorem rd__law_right : ∀ a xs ds C, ds.length + 1 = 1 → g__law_right xs ds C → T__law_right (gS 5) (gL 4) g__law_entries g__law_books_of g__law_due g_toldK g__law_bent (EB a C) (startB N__law_right a xs ds) := by
  rintro a0 xs ds C - ⟨hB, rfl, hC⟩
  refine f1 hB fun es r0 z1 hl ho b1 => ?_
  refine f2 hl ?_
  refine f3 hl ?_
  refine f4 hl fun r r1 s1 r2 s2 e1 e2 => ?_
  refine f5 hl e1 e2 ?_
  refine f6 hl e1 fun s1' n1 c1 => ?_
  refine f7 n1 c1 fun s1'' => ?_
  refine f8 hl e2 ?_
  refine f9 hl ho b1 fun z w6 w7 w8 w11 w12 w14 w15 w17 => ?_
  exact ⟨z, rfl, hC z⟩
theorem rd_law : ∀ ds C, ds.length = 1 → g_law ds C → T_law g__law_box g__law_right (EA C) (startA N_law ds) := by
  rintro ds C - ⟨ns, rfl, hns, hC⟩
  refine ⟨by show (-(2 ^ 62) : Int) ≤ 1 + min 3 _; omega, by show (1 + min 3 _ : Int) < 2 ^ 62; omega, ?_⟩
  refine lc_rg (1 + min 3 (ns.length : Int)).toNat (fun _ => .bl true) rfl (fun j hj K hK => ?_) (by omega) ?_
  · refine ⟨rfl, ns, j, rfl, by omega, by omega, fun a zs hB => ?_⟩
    exact ⟨rfl, hB, rfl, fun _ => hK _ rfl⟩
  · refine ⟨List.replicate (1 + min 3 (ns.length : Int)).toNat true, ?_, ?_⟩
    · rw [List.map_const', List.length_range, List.map_replicate]
    · have e : (List.replicate (1 + min 3 (ns.length : Int)).toNat true).all id = true := by simp [List.all_replicate]
      rw [e]; exact hC
end Pl
namespace Pl
open PySem PySem.Spec PyProof.Rows L2
def topS (i : Nat) : Stmt := PySem.Challenge.pw_dunebooks_k56_stretches_of_two_books.main.body.getD i (.Pass ⟨0, 0, 0, 0⟩)
abbrev s_own_copy : Stmt := topS 1
abbrev s_mirrored : Stmt := topS 7
abbrev NN_mirrored : List Str := [("dune" : Str)]
theorem sc_mirrored : FnScope NN_mirrored ["dune"] (defScope s_mirrored) := ⟨rfl, rfl, rfl, by decide +kernel, rfl, by decide +kernel, by decide +kernel⟩
abbrev s_upside : Stmt := topS 8
abbrev NN_upside : List Str := [("dune" : Str), ("height" : Str)]
theorem sc_upside : FnScope NN_upside ["dune"] (defScope s_upside) := ⟨rfl, rfl, rfl, by decide +kernel, rfl, by decide +kernel, by decide +kernel⟩
abbrev s_handed : Stmt := topS 9
abbrev NN_handed : List Str := [("dune" : Str), ("post" : Str), ("by" : Str), ("at" : Str), ("height" : Str)]
theorem sc_handed : FnScope NN_handed ["dune", "post", "by"] (defScope s_handed) := ⟨rfl, rfl, rfl, by decide +kernel, rfl, by decide +kernel, by decide +kernel⟩
abbrev s_almanac_of : Stmt := topS 11
abbrev NN_almanac_of : List Str := [("cuts" : Str), ("fills" : Str), ("order" : Str), ("winds" : Str), ("cut" : Str), ("fill" : Str), ("sign" : Str)]
theorem sc_almanac_of : FnScope NN_almanac_of ["cuts", "fills", "order"] (defScope s_almanac_of) := ⟨rfl, rfl, rfl, by decide +kernel, rfl, by decide +kernel, by decide +kernel⟩
abbrev s_are_contrary : Stmt := topS 12
abbrev NN_are_contrary : List Str := [("one" : Str), ("other" : Str), ("of_cut" : Str), ("of_fill" : Str)]
theorem sc_are_contrary : FnScope NN_are_contrary ["one", "other"] (defScope s_are_contrary) := ⟨rfl, rfl, rfl, by decide +kernel, rfl, by decide +kernel, by decide +kernel⟩
abbrev s_first_clash : Stmt := topS 13
abbrev NN_first_clash : List Str := [("words" : Str), ("one" : Str), ("other" : Str)]
theorem sc_first_clash : FnScope NN_first_clash ["words"] (defScope s_first_clash) := ⟨rfl, rfl, rfl, by decide +kernel, rfl, by decide +kernel, by decide +kernel⟩
abbrev s_refuse_clash : Stmt := topS 14
abbrev NN_refuse_clash : List Str := [("words" : Str), ("places" : Str)]
theorem sc_refuse_clash : FnScope NN_refuse_clash ["words"] (defScope s_refuse_clash) := ⟨rfl, rfl, rfl, by decide +kernel, rfl, by decide +kernel, by decide +kernel⟩
abbrev s_least_ahead : Stmt := topS 15
abbrev NN_least_ahead : List Str := [("words" : Str), ("fill" : Str), ("word" : Str), ("cut" : Str), ("at" : Str)]
theorem sc_least_ahead : FnScope NN_least_ahead ["words", "fill"] (defScope s_least_ahead) := ⟨rfl, rfl, rfl, by decide +kernel, rfl, by decide +kernel, by decide +kernel⟩
abbrev s_most_ahead : Stmt := topS 16
abbrev NN_most_ahead : List Str := [("cuts" : Str), ("words" : Str), ("fill" : Str), ("word" : Str), ("cut" : Str), ("at" : Str)]
theorem sc_most_ahead : FnScope NN_most_ahead ["cuts", "words", "fill"] (defScope s_most_ahead) := ⟨rfl, rfl, rfl, by decide +kernel, rfl, by decide +kernel, by decide +kernel⟩
abbrev s_bounds : Stmt := topS 17
abbrev NN_bounds : List Str := [("cuts" : Str), ("fills" : Str), ("words" : Str), ("fill" : Str)]
theorem sc_bounds : FnScope NN_bounds ["cuts", "fills", "words"] (defScope s_bounds) := ⟨rfl, rfl, rfl, by decide +kernel, rfl, by decide +kernel, by decide +kernel⟩
abbrev s_ways_on : Stmt := topS 18
abbrev NN_ways_on : List Str := [("cuts" : Str), ("fills" : Str), ("words" : Str), ("rows" : Str), ("least" : Str), ("most" : Str)]
theorem sc_ways_on : FnScope NN_ways_on ["cuts", "fills", "words"] (defScope s_ways_on) := ⟨rfl, rfl, rfl, by decide +kernel, rfl, by decide +kernel, by decide +kernel⟩
abbrev s_ways_ahead : Stmt := topS 19
abbrev NN_ways_ahead : List Str := [("later" : Str), ("least" : Str), ("most" : Str), ("row" : Str), ("many" : Str), ("cut" : Str)]
theorem sc_ways_ahead : FnScope NN_ways_ahead ["later", "least", "most"] (defScope s_ways_ahead) := ⟨rfl, rfl, rfl, by decide +kernel, rfl, by decide +kernel, by decide +kernel⟩
abbrev s_orders_many : Stmt := topS 20
abbrev NN_orders_many : List Str := [("cuts" : Str), ("fills" : Str), ("words" : Str)]
theorem sc_orders_many : FnScope NN_orders_many ["cuts", "fills", "words"] (defScope s_orders_many) := ⟨rfl, rfl, rfl, by decide +kernel, rfl, by decide +kernel, by decide +kernel⟩
abbrev s_blown : Stmt := topS 22
abbrev NN_blown : List Str := [("dune" : Str), ("wind" : Str), ("word" : Str), ("slope" : Str)]
theorem sc_blown : FnScope NN_blown ["dune", "wind"] (defScope s_blown) := ⟨rfl, rfl, rfl, by decide +kernel, rfl, by decide +kernel, by decide +kernel⟩
abbrev s_cut_to : Stmt := topS 23
abbrev NN_cut_to : List Str := [("dune" : Str), ("slope" : Str), ("onward" : Str)]
theorem sc_cut_to : FnScope NN_cut_to ["dune", "slope"] (defScope s_cut_to) := ⟨rfl, rfl, rfl, by decide +kernel, rfl, by decide +kernel, by decide +kernel⟩
abbrev s_cut_onward : Stmt := topS 24
abbrev NN_cut_onward : List Str := [("dune" : Str), ("slope" : Str), ("heights" : Str), ("height" : Str)]
theorem sc_cut_onward : FnScope NN_cut_onward ["dune", "slope"] (defScope s_cut_onward) := ⟨rfl, rfl, rfl, by decide +kernel, rfl, by decide +kernel, by decide +kernel⟩
abbrev s_is_hand : Stmt := topS 26
abbrev NN_is_hand : List Str := [("entry" : Str)]
theorem sc_is_hand : FnScope NN_is_hand ["entry"] (defScope s_is_hand) := ⟨rfl, rfl, rfl, by decide +kernel, rfl, by decide +kernel, by decide +kernel⟩
abbrev s_done : Stmt := topS 27
abbrev NN_done : List Str := [("dune" : Str), ("entries" : Str), ("now" : Str), ("entry" : Str)]
theorem sc_done : FnScope NN_done ["dune", "entries"] (defScope s_done) := ⟨rfl, rfl, rfl, by decide +kernel, rfl, by decide +kernel, by decide +kernel⟩
abbrev s_entries_with : Stmt := topS 28
abbrev NN_entries_with : List Str := [("entries" : Str), ("words" : Str), ("entry" : Str)]
theorem sc_entries_with : FnScope NN_entries_with ["entries", "words"] (defScope s_entries_with) := ⟨rfl, rfl, rfl, by decide +kernel, rfl, by decide +kernel, by decide +kernel⟩
abbrev s_slopes_between : Stmt := topS 29
abbrev NN_slopes_between : List Str := [("book" : Str), ("rows" : Str), ("entry" : Str)]
theorem sc_slopes_between : FnScope NN_slopes_between ["book"] (defScope s_slopes_between) := ⟨rfl, rfl, rfl, by decide +kernel, rfl, by decide +kernel, by decide +kernel⟩
abbrev s_same_hands : Stmt := topS 30
abbrev NN_same_hands : List Str := [("cutter" : Str), ("filler" : Str), ("ours" : Str), ("theirs" : Str), ("number" : Str)]
theorem sc_same_hands : FnScope NN_same_hands ["cutter", "filler"] (defScope s_same_hands) := ⟨rfl, rfl, rfl, by decide +kernel, rfl, by decide +kernel, by decide +kernel⟩
abbrev s_stretches : Stmt := topS 31
abbrev NN_stretches : List Str := [("cutter" : Str), ("filler" : Str), ("hands" : Str)]
theorem sc_stretches : FnScope NN_stretches ["cutter", "filler"] (defScope s_stretches) := ⟨rfl, rfl, rfl, by decide +kernel, rfl, by decide +kernel, by decide +kernel⟩
abbrev s_all_of_one_first : Stmt := topS 32
abbrev NN_all_of_one_first : List Str := [("parts" : Str), ("word" : Str), ("entries" : Str), ("cuts" : Str), ("fills" : Str), ("hand" : Str), ("early" : Str), ("late" : Str)]
theorem sc_all_of_one_first : FnScope NN_all_of_one_first ["parts", "word"] (defScope s_all_of_one_first) := ⟨rfl, rfl, rfl, by decide +kernel, rfl, by decide +kernel, by decide +kernel⟩
abbrev s_long_may : Stmt := topS 33
abbrev NN_long_may : List Str := [("dune" : Str), ("cutter" : Str), ("filler" : Str), ("parts" : Str)]
theorem sc_long_may : FnScope NN_long_may ["dune", "cutter", "filler"] (defScope s_long_may) := ⟨rfl, rfl, rfl, by decide +kernel, rfl, by decide +kernel, by decide +kernel⟩
abbrev s_long_many : Stmt := topS 34
abbrev NN_long_many : List Str := [("cutter" : Str), ("filler" : Str), ("many" : Str), ("cuts" : Str), ("fills" : Str), ("hand" : Str)]
theorem sc_long_many : FnScope NN_long_many ["cutter", "filler"] (defScope s_long_many) := ⟨rfl, rfl, rfl, by decide +kernel, rfl, by decide +kernel, by decide +kernel⟩
abbrev s__law_cell_at : Stmt := topS 36
abbrev NN__law_cell_at : List Str := [("_law_script" : Str), ("_law_k" : Str)]
theorem sc__law_cell_at : FnScope NN__law_cell_at ["_law_script", "_law_k"] (defScope s__law_cell_at) := ⟨rfl, rfl, rfl, by decide +kernel, rfl, by decide +kernel, by decide +kernel⟩
abbrev s__law_box : Stmt := topS 37
abbrev NN__law_box : List Str := [("_law_script" : Str), ("_law_k" : Str), ("_law_cell" : Str)]
theorem sc__law_box : FnScope NN__law_box ["_law_script", "_law_k"] (defScope s__law_box) := ⟨rfl, rfl, rfl, by decide +kernel, rfl, by decide +kernel, by decide +kernel⟩
abbrev s__law_take : Stmt := topS 38
abbrev NN__law_take : List Str := [("_law_box_here" : Str), ("_law_size" : Str), ("_law_told_here" : Str), ("_law_once" : Str), ("_law_twice" : Str)]
theorem sc__law_take : FnScope NN__law_take ["_law_box_here", "_law_size"] (defScope s__law_take) := ⟨rfl, rfl, rfl, by decide +kernel, rfl, by decide +kernel, by decide +kernel⟩
abbrev s__law_of : Stmt := topS 39
abbrev NN__law_of : List Str := [("_law_box_here" : Str), ("_law_some" : Str)]
theorem sc__law_of : FnScope NN__law_of ["_law_box_here", "_law_some"] (defScope s__law_of) := ⟨rfl, rfl, rfl, by decide +kernel, rfl, by decide +kernel, by decide +kernel⟩
abbrev s__law_same : Stmt := topS 40
abbrev NN__law_same : List Str := [("_law_told_here" : Str), ("_law_due_here" : Str), ("_law_one" : Str), ("_law_two" : Str)]
theorem sc__law_same : FnScope NN__law_same ["_law_told_here", "_law_due_here"] (defScope s__law_same) := ⟨rfl, rfl, rfl, by decide +kernel, rfl, by decide +kernel, by decide +kernel⟩
abbrev s__law_slope : Stmt := topS 41
abbrev NN__law_slope : List Str := [("_law_box_here" : Str)]
theorem sc__law_slope : FnScope NN__law_slope ["_law_box_here"] (defScope s__law_slope) := ⟨rfl, rfl, rfl, by decide +kernel, rfl, by decide +kernel, by decide +kernel⟩
abbrev s__law_lists : Stmt := topS 42
abbrev NN__law_lists : List Str := [("_law_thing" : Str), ("_law_one" : Str)]
theorem sc__law_lists : FnScope NN__law_lists ["_law_thing"] (defScope s__law_lists) := ⟨rfl, rfl, rfl, by decide +kernel, rfl, by decide +kernel, by decide +kernel⟩
abbrev s__law_entries : Stmt := topS 43
abbrev NN__law_entries : List Str := [("_law_box_here" : Str), ("_law_posts" : Str), ("_law_size" : Str), ("_law_told_here" : Str), ("_law_turn" : Str), ("_law_way" : Str), ("_law_by" : Str), ("_law_wind" : Str)]
theorem sc__law_entries : FnScope NN__law_entries ["_law_box_here", "_law_posts", "_law_size"] (defScope s__law_entries) := ⟨rfl, rfl, rfl, by decide +kernel, rfl, by decide +kernel, by decide +kernel⟩
abbrev s__law_books_of : Stmt := topS 44
abbrev NN__law_books_of : List Str := [("_law_entries_here" : Str), ("_law_word" : Str), ("_law_entry" : Str)]
theorem sc__law_books_of : FnScope NN__law_books_of ["_law_entries_here"] (defScope s__law_books_of) := ⟨rfl, rfl, rfl, by decide +kernel, rfl, by decide +kernel, by decide +kernel⟩
abbrev s__law_due : Stmt := topS 45
abbrev NN__law_due : List Str := [("_law_entries_here" : Str), ("_law_told_here" : Str), ("_law_cuts" : Str), ("_law_fills" : Str), ("_law_entry" : Str)]
theorem sc__law_due : FnScope NN__law_due ["_law_entries_here"] (defScope s__law_due) := ⟨rfl, rfl, rfl, by decide +kernel, rfl, by decide +kernel, by decide +kernel⟩
abbrev s__law_told : Stmt := topS 46
abbrev NN__law_told : List Str := [("_law_way" : Str), ("_law_cutter" : Str), ("_law_filler" : Str), ("_law_caught" : Str), ("_law_told_here" : Str), ("error" : Str), ("_law_fine" : Str)]
theorem sc__law_told : FnScope NN__law_told ["_law_way", "_law_cutter", "_law_filler"] (defScope s__law_told) := ⟨rfl, rfl, rfl, by decide +kernel, rfl, by decide +kernel, by decide +kernel⟩
abbrev s__law_bent : Stmt := topS 47
abbrev NN__law_bent : List Str := [("_law_box_here" : Str), ("_law_book" : Str), ("_law_k" : Str), ("_law_entry" : Str), ("_law_hands" : Str), ("_law_way" : Str), ("_law_at" : Str), ("_law_word" : Str), ("_law_post" : Str), ("_law_by" : Str), ("_law_more" : Str)]
theorem sc__law_bent : FnScope NN__law_bent ["_law_box_here", "_law_book"] (defScope s__law_bent) := ⟨rfl, rfl, rfl, by decide +kernel, rfl, by decide +kernel, by decide +kernel⟩
abbrev s__law_right : Stmt := topS 48
abbrev NN__law_right : List Str := [("_law_box_here" : Str), ("_law_entries_here" : Str), ("_law_cutter" : Str), ("_law_filler" : Str), ("_law_due_here" : Str), ("_law_told_here" : Str), ("_law_turn" : Str), ("_law_bent_here" : Str), ("_law_pair" : Str), ("_law_book" : Str), ("_law_entry" : Str), ("_law_hands" : Str), ("_law_size" : Str), ("_law_k" : Str), ("_law_places" : Str), ("_law_wrong" : Str), ("_law_way" : Str), ("_law_found" : Str)]
theorem sc__law_right : FnScope NN__law_right ["_law_box_here"] (defScope s__law_right) := ⟨rfl, rfl, rfl, by decide +kernel, rfl, by decide +kernel, by decide +kernel⟩
abbrev s_law : Stmt := topS 49
abbrev NN_law : List Str := [("_law_script" : Str), ("_law_k" : Str)]
theorem sc_law : FnScope NN_law ["_law_script"] (defScope s_law) := ⟨rfl, rfl, rfl, by decide +kernel, rfl, by decide +kernel, by decide +kernel⟩
abbrev si_Astray : Stmt := inS (topS 4) 0
abbrev si_NoPost : Stmt := inS (topS 5) 0
set_option genInjectivity false in
set_option maxHeartbeats 4000000 in
structure Tx (K : PySem.W.Frag) (mg : Str → Option Value) where
  f_own_copy : Addr
  fd_own_copy : FuncData
  F_own_copy : Fun K "own_copy" "own_copy" s_own_copy f_own_copy fd_own_copy
  m_own_copy : mg "own_copy" = some (.ref f_own_copy)
  b_own_copy : L2.Binds K fd_own_copy ["thing"] []
  f_mirrored : Addr
  fd_mirrored : FuncData
  F_mirrored : Fun K "mirrored" "mirrored" s_mirrored f_mirrored fd_mirrored
  m_mirrored : mg "mirrored" = some (.ref f_mirrored)
  b_mirrored : L2.Binds K fd_mirrored ["dune"] []
  f_upside : Addr
  fd_upside : FuncData
  F_upside : Fun K "upside" "upside" s_upside f_upside fd_upside
  m_upside : mg "upside" = some (.ref f_upside)
  b_upside : L2.Binds K fd_upside ["dune"] []
  f_handed : Addr
  fd_handed : FuncData
  F_handed : Fun K "handed" "handed" s_handed f_handed fd_handed
  m_handed : mg "handed" = some (.ref f_handed)
  b_handed : L2.Binds K fd_handed ["dune", "post", "by"] []
  f_almanac_of : Addr
  fd_almanac_of : FuncData
  F_almanac_of : Fun K "almanac_of" "almanac_of" s_almanac_of f_almanac_of fd_almanac_of
  m_almanac_of : mg "almanac_of" = some (.ref f_almanac_of)
  b_almanac_of : L2.Binds K fd_almanac_of ["cuts", "fills", "order"] []
  f_are_contrary : Addr
  fd_are_contrary : FuncData
  F_are_contrary : Fun K "are_contrary" "are_contrary" s_are_contrary f_are_contrary fd_are_contrary
  m_are_contrary : mg "are_contrary" = some (.ref f_are_contrary)
  b_are_contrary : L2.Binds K fd_are_contrary ["one", "other"] []
  f_first_clash : Addr
  fd_first_clash : FuncData
  F_first_clash : Fun K "first_clash" "first_clash" s_first_clash f_first_clash fd_first_clash
  m_first_clash : mg "first_clash" = some (.ref f_first_clash)
  b_first_clash : L2.Binds K fd_first_clash ["words"] []
  f_refuse_clash : Addr
  fd_refuse_clash : FuncData
  F_refuse_clash : Fun K "refuse_clash" "refuse_clash" s_refuse_clash f_refuse_clash fd_refuse_clash
  m_refuse_clash : mg "refuse_clash" = some (.ref f_refuse_clash)
  b_refuse_clash : L2.Binds K fd_refuse_clash ["words"] []
  f_least_ahead : Addr
  fd_least_ahead : FuncData
  F_least_ahead : Fun K "least_ahead" "least_ahead" s_least_ahead f_least_ahead fd_least_ahead
  m_least_ahead : mg "least_ahead" = some (.ref f_least_ahead)
  b_least_ahead : L2.Binds K fd_least_ahead ["words", "fill"] []
  f_most_ahead : Addr
  fd_most_ahead : FuncData
  F_most_ahead : Fun K "most_ahead" "most_ahead" s_most_ahead f_most_ahead fd_most_ahead
  m_most_ahead : mg "most_ahead" = some (.ref f_most_ahead)
  b_most_ahead : L2.Binds K fd_most_ahead ["cuts", "words", "fill"] []
  f_bounds : Addr
  fd_bounds : FuncData
  F_bounds : Fun K "bounds" "bounds" s_bounds f_bounds fd_bounds
  m_bounds : mg "bounds" = some (.ref f_bounds)
  b_bounds : L2.Binds K fd_bounds ["cuts", "fills", "words"] []
  f_ways_on : Addr
  fd_ways_on : FuncData
  F_ways_on : Fun K "ways_on" "ways_on" s_ways_on f_ways_on fd_ways_on
  m_ways_on : mg "ways_on" = some (.ref f_ways_on)
  b_ways_on : L2.Binds K fd_ways_on ["cuts", "fills", "words"] []
  f_ways_ahead : Addr
  fd_ways_ahead : FuncData
  F_ways_ahead : Fun K "ways_ahead" "ways_ahead" s_ways_ahead f_ways_ahead fd_ways_ahead
  m_ways_ahead : mg "ways_ahead" = some (.ref f_ways_ahead)
  b_ways_ahead : L2.Binds K fd_ways_ahead ["later", "least", "most"] []
  f_orders_many : Addr
  fd_orders_many : FuncData
  F_orders_many : Fun K "orders_many" "orders_many" s_orders_many f_orders_many fd_orders_many
  m_orders_many : mg "orders_many" = some (.ref f_orders_many)
  b_orders_many : L2.Binds K fd_orders_many ["cuts", "fills", "words"] []
  f_blown : Addr
  fd_blown : FuncData
  F_blown : Fun K "blown" "blown" s_blown f_blown fd_blown
  m_blown : mg "blown" = some (.ref f_blown)
  b_blown : L2.Binds K fd_blown ["dune", "wind"] []
  f_cut_to : Addr
  fd_cut_to : FuncData
  F_cut_to : Fun K "cut_to" "cut_to" s_cut_to f_cut_to fd_cut_to
  m_cut_to : mg "cut_to" = some (.ref f_cut_to)
  b_cut_to : L2.Binds K fd_cut_to ["dune", "slope"] []
  f_cut_onward : Addr
  fd_cut_onward : FuncData
  F_cut_onward : Fun K "cut_onward" "cut_onward" s_cut_onward f_cut_onward fd_cut_onward
  m_cut_onward : mg "cut_onward" = some (.ref f_cut_onward)
  b_cut_onward : L2.Binds K fd_cut_onward ["dune", "slope"] []
  f_is_hand : Addr
  fd_is_hand : FuncData
  F_is_hand : Fun K "is_hand" "is_hand" s_is_hand f_is_hand fd_is_hand
  m_is_hand : mg "is_hand" = some (.ref f_is_hand)
  b_is_hand : L2.Binds K fd_is_hand ["entry"] []
  f_done : Addr
  fd_done : FuncData
  F_done : Fun K "done" "done" s_done f_done fd_done
  m_done : mg "done" = some (.ref f_done)
  b_done : L2.Binds K fd_done ["dune", "entries"] []
  f_entries_with : Addr
  fd_entries_with : FuncData
  F_entries_with : Fun K "entries_with" "entries_with" s_entries_with f_entries_with fd_entries_with
  m_entries_with : mg "entries_with" = some (.ref f_entries_with)
  b_entries_with : L2.Binds K fd_entries_with ["entries", "words"] []
  f_slopes_between : Addr
  fd_slopes_between : FuncData
  F_slopes_between : Fun K "slopes_between" "slopes_between" s_slopes_between f_slopes_between fd_slopes_between
  m_slopes_between : mg "slopes_between" = some (.ref f_slopes_between)
  b_slopes_between : L2.Binds K fd_slopes_between ["book"] []
  f_same_hands : Addr
  fd_same_hands : FuncData
  F_same_hands : Fun K "same_hands" "same_hands" s_same_hands f_same_hands fd_same_hands
  m_same_hands : mg "same_hands" = some (.ref f_same_hands)
  b_same_hands : L2.Binds K fd_same_hands ["cutter", "filler"] []
  f_stretches : Addr
  fd_stretches : FuncData
  F_stretches : Fun K "stretches" "stretches" s_stretches f_stretches fd_stretches
  m_stretches : mg "stretches" = some (.ref f_stretches)
  b_stretches : L2.Binds K fd_stretches ["cutter", "filler"] []
  f_all_of_one_first : Addr
  fd_all_of_one_first : FuncData
  F_all_of_one_first : Fun K "all_of_one_first" "all_of_one_first" s_all_of_one_first f_all_of_one_first fd_all_of_one_first
  m_all_of_one_first : mg "all_of_one_first" = some (.ref f_all_of_one_first)
  b_all_of_one_first : L2.Binds K fd_all_of_one_first ["parts", "word"] []
  f_long_may : Addr
  fd_long_may : FuncData
  F_long_may : Fun K "long_may" "long_may" s_long_may f_long_may fd_long_may
  m_long_may : mg "long_may" = some (.ref f_long_may)
  b_long_may : L2.Binds K fd_long_may ["dune", "cutter", "filler"] []
  f_long_many : Addr
  fd_long_many : FuncData
  F_long_many : Fun K "long_many" "long_many" s_long_many f_long_many fd_long_many
  m_long_many : mg "long_many" = some (.ref f_long_many)
  b_long_many : L2.Binds K fd_long_many ["cutter", "filler"] []
  f__law_cell_at : Addr
  fd__law_cell_at : FuncData
  F__law_cell_at : Fun K "_law_cell_at" "_law_cell_at" s__law_cell_at f__law_cell_at fd__law_cell_at
  m__law_cell_at : mg "_law_cell_at" = some (.ref f__law_cell_at)
  b__law_cell_at : L2.Binds K fd__law_cell_at ["_law_script", "_law_k"] []
  f__law_box : Addr
  fd__law_box : FuncData
  F__law_box : Fun K "_law_box" "_law_box" s__law_box f__law_box fd__law_box
  m__law_box : mg "_law_box" = some (.ref f__law_box)
  b__law_box : L2.Binds K fd__law_box ["_law_script", "_law_k"] []
  f__law_take : Addr
  fd__law_take : FuncData
  F__law_take : Fun K "_law_take" "_law_take" s__law_take f__law_take fd__law_take
  m__law_take : mg "_law_take" = some (.ref f__law_take)
  b__law_take : L2.Binds K fd__law_take ["_law_box_here", "_law_size"] []
  f__law_of : Addr
  fd__law_of : FuncData
  F__law_of : Fun K "_law_of" "_law_of" s__law_of f__law_of fd__law_of
  m__law_of : mg "_law_of" = some (.ref f__law_of)
  b__law_of : L2.Binds K fd__law_of ["_law_box_here", "_law_some"] []
  f__law_same : Addr
  fd__law_same : FuncData
  F__law_same : Fun K "_law_same" "_law_same" s__law_same f__law_same fd__law_same
  m__law_same : mg "_law_same" = some (.ref f__law_same)
  b__law_same : L2.Binds K fd__law_same ["_law_told_here", "_law_due_here"] []
  f__law_slope : Addr
  fd__law_slope : FuncData
  F__law_slope : Fun K "_law_slope" "_law_slope" s__law_slope f__law_slope fd__law_slope
  m__law_slope : mg "_law_slope" = some (.ref f__law_slope)
  b__law_slope : L2.Binds K fd__law_slope ["_law_box_here"] []
  f__law_lists : Addr
  fd__law_lists : FuncData
  F__law_lists : Fun K "_law_lists" "_law_lists" s__law_lists f__law_lists fd__law_lists
  m__law_lists : mg "_law_lists" = some (.ref f__law_lists)
  b__law_lists : L2.Binds K fd__law_lists ["_law_thing"] []
  f__law_entries : Addr
  fd__law_entries : FuncData
  F__law_entries : Fun K "_law_entries" "_law_entries" s__law_entries f__law_entries fd__law_entries
  m__law_entries : mg "_law_entries" = some (.ref f__law_entries)
  b__law_entries : L2.Binds K fd__law_entries ["_law_box_here", "_law_posts", "_law_size"] []
  f__law_books_of : Addr
  fd__law_books_of : FuncData
  F__law_books_of : Fun K "_law_books_of" "_law_books_of" s__law_books_of f__law_books_of fd__law_books_of
  m__law_books_of : mg "_law_books_of" = some (.ref f__law_books_of)
  b__law_books_of : L2.Binds K fd__law_books_of ["_law_entries_here"] []
  f__law_due : Addr
  fd__law_due : FuncData
  F__law_due : Fun K "_law_due" "_law_due" s__law_due f__law_due fd__law_due
  m__law_due : mg "_law_due" = some (.ref f__law_due)
  b__law_due : L2.Binds K fd__law_due ["_law_entries_here"] []
  f__law_told : Addr
  fd__law_told : FuncData
  F__law_told : Fun K "_law_told" "_law_told" s__law_told f__law_told fd__law_told
  m__law_told : mg "_law_told" = some (.ref f__law_told)
  b__law_told : L2.Binds K fd__law_told ["_law_way", "_law_cutter", "_law_filler"] []
  f__law_bent : Addr
  fd__law_bent : FuncData
  F__law_bent : Fun K "_law_bent" "_law_bent" s__law_bent f__law_bent fd__law_bent
  m__law_bent : mg "_law_bent" = some (.ref f__law_bent)
  b__law_bent : L2.Binds K fd__law_bent ["_law_box_here", "_law_book"] []
  f__law_right : Addr
  fd__law_right : FuncData
  F__law_right : Fun K "_law_right" "_law_right" s__law_right f__law_right fd__law_right
  m__law_right : mg "_law_right" = some (.ref f__law_right)
  b__law_right : L2.Binds K fd__law_right ["_law_box_here"] []
  f_law : Addr
  fd_law : FuncData
  F_law : Fun K "law" "law" s_law f_law fd_law
  m_law : mg "law" = some (.ref f_law)
  b_law : L2.Binds K fd_law ["_law_script"] []
  C_Astray : Addr
  x_Astray : XCl K mg "Astray" C_Astray
  fI_Astray : Addr
  fdI_Astray : FuncData
  iC_Astray : PySem.W.findIn K (.ref C_Astray) "__init__" = some (some (.ref fI_Astray))
  tI_Astray : PySem.W.typeIn K (.ref fI_Astray) = some (.type "function")
  FI_Astray : Fun K "__init__" "Astray.__init__" si_Astray fI_Astray fdI_Astray
  bI_Astray : L2.Binds K fdI_Astray ["self", "number"] []
  vI_Astray : PySem.W.findCls K (.type "ValueError") (.type "type") "__init__" = some (.val (.builtin "ValueError.__init__"))
  C_Clash : Addr
  x_Clash : XCl K mg "Clash" C_Clash
  C_NoPost : Addr
  x_NoPost : XCl K mg "NoPost" C_NoPost
  fI_NoPost : Addr
  fdI_NoPost : FuncData
  iC_NoPost : PySem.W.findIn K (.ref C_NoPost) "__init__" = some (some (.ref fI_NoPost))
  tI_NoPost : PySem.W.typeIn K (.ref fI_NoPost) = some (.type "function")
  FI_NoPost : Fun K "__init__" "NoPost.__init__" si_NoPost fI_NoPost fdI_NoPost
  bI_NoPost : L2.Binds K fdI_NoPost ["self", "post"] []
  vI_NoPost : PySem.W.findCls K (.type "LookupError") (.type "type") "__init__" = some (.val (.builtin "LookupError.__init__"))
  z_LookupError : mg "LookupError" = none
  z_ValueError : mg "ValueError" = none
  z_abs : mg "abs" = none
  z_all : mg "all" = none
  z_bool : mg "bool" = none
  z_enumerate : mg "enumerate" = none
  z_int : mg "int" = none
  z_isinstance : mg "isinstance" = none
  z_len : mg "len" = none
  z_list : mg "list" = none
  z_max : mg "max" = none
  z_min : mg "min" = none
  z_range : mg "range" = none
  z_reversed : mg "reversed" = none
  z_str : mg "str" = none
  z_tuple : mg "tuple" = none
  z_zip : mg "zip" = none
section
variable {P : Program} {w : World} {K : PySem.W.Frag} {mg : Str → Option Value} {base : Heap} (Z : Tx K mg)
include Z
set_option maxHeartbeats 4000000 in
theorem bd_mirrored {k : Nat} : ∀ (cdv : Value) (A : Around) (outer : List Env) (s : Shared) (H : Hp) (E : XK), Room k (A.deeper (envOfC "mirrored" (defScope s_mirrored) s.heap.objs.size Z.f_mirrored cdv)) → ∃ t, PPSs (cxOf CX0 P w K mg base NN_mirrored "mirrored" (defScope s_mirrored) Z.f_mirrored cdv A outer s H E).nox (defBody s_mirrored) t (T_mirrored) :=
  fun cdv A outer s H E hr => ⟨_, (ppss_one (pps_ret (ppc_val (ppe_callTy call_tuple_of cp_tup (by rfl) Z.z_tuple (by decide +kernel) (ppa_cons (ppe_rev (ppe_var 0)) ppa_nil)))))⟩
set_option maxHeartbeats 4000000 in
theorem bd_upside {k : Nat} : ∀ (cdv : Value) (A : Around) (outer : List Env) (s : Shared) (H : Hp) (E : XK), Room k (A.deeper (envOfC "upside" (defScope s_upside) s.heap.objs.size Z.f_upside cdv)) → ∃ t, PPSs (cxOf CX0 P w K mg base NN_upside "upside" (defScope s_upside) Z.f_upside cdv A outer s H E).nox (defBody s_upside) t (T_upside) :=
  fun cdv A outer s H E hr => ⟨_, (ppss_one (pps_ret (ppc_val (ppe_callTy call_tuple_of cp_tup (by rfl) Z.z_tuple (by decide +kernel) (ppa_cons (ppe_lcL (own := [("height", 1)]) rfl sc_upside.nd (ppi_seq (ppe_var 0)) (blkOk_by (N := NN_upside) (sc := defScope s_upside) (by decide +kernel)) (fun _ _ _ _ _ => ((ptg_name (i := 1) sc_upside.nd)).lift) (fun _ _ _ _ _ => (ppts_nil).lift) (fun _ _ _ _ _ => ((ppe_neg (ppe_var 1))).lift)) ppa_nil)))))⟩
set_option maxHeartbeats 4000000 in
theorem bd_handed {k : Nat} : ∀ (cdv : Value) (A : Around) (outer : List Env) (s : Shared) (H : Hp) (E : XK), Room k (A.deeper (envOfC "handed" (defScope s_handed) s.heap.objs.size Z.f_handed cdv)) → ∃ t, PPSs (cxOf CX0 P w K mg base NN_handed "handed" (defScope s_handed) Z.f_handed cdv A outer s H E).nox (defBody s_handed) t (T_handed) :=
  fun cdv A outer s H E hr => ⟨_, (ppss_cons (pps_if (ppt_not (ppt_chain cm_le cm_lt ppe_int (ppe_var 1) (ppe_lenO 0 (by rfl) Z.z_len)))
    (ppss_one pps_never)
    ppss_nil)
    (ppss_one (pps_ret (ppc_val (ppe_callTy call_tuple_of cp_tup (by rfl) Z.z_tuple (by decide +kernel) (ppa_cons (ppe_lcL (own := [("at", 3), ("height", 4)]) rfl sc_handed.nd (ppi_e (by rfl) Z.z_enumerate (ppa_cons (ppe_var 0) ppa_nil)) (blkOk_by (N := NN_handed) (sc := defScope s_handed) (by decide +kernel)) (fun _ _ _ _ _ => ((ptg_tup (n := 2) rfl (ptgs_cons (ptg_name (i := 3) sc_handed.nd) (ptgs_cons (ptg_name (i := 4) sc_handed.nd) ptgs_nil)))).lift) (fun _ _ _ _ _ => (ppts_nil).lift) (fun _ _ _ _ _ => ((ppe_ifExp (ppt_cmp (cm_eq (hu64 hr)) (ppe_var 3) (ppe_var 1) (nomark _)) (ppe_add (ppe_var 4) (ppe_var 2)) (ppe_var 4))).lift)) ppa_nil))))))⟩
set_option maxHeartbeats 4000000 in
theorem bd_almanac_of {k : Nat} : ∀ (cdv : Value) (A : Around) (outer : List Env) (s : Shared) (H : Hp) (E : XK), Room k (A.deeper (envOfC "almanac_of" (defScope s_almanac_of) s.heap.objs.size Z.f_almanac_of cdv)) → ∃ t, PPSs (cxOf CX0 P w K mg base NN_almanac_of "almanac_of" (defScope s_almanac_of) Z.f_almanac_of cdv A outer s H E).nox (defBody s_almanac_of) t (T_almanac_of) :=
  fun cdv A outer s H E hr => ⟨_, (ppss_cons (pps_set (i := 3) sc_almanac_of.nd (ppc_lst ppa_nil))
    (ppss_cons (pps_set (i := 4) sc_almanac_of.nd (ppc_val ppe_int))
    (ppss_cons (pps_set (i := 5) sc_almanac_of.nd (ppc_val ppe_int))
    (ppss_cons (pps_for PassesOwn.never rfl (ppi_str (ppe_var 2)) (ptg_name (i := 6) sc_almanac_of.nd)
    (ppss_one (pps_if (ppt_cmp (cm_eq (hu64 hr)) (ppe_var 6) ppe_str (nomark _))
    (ppss_cons (pps_append 3 (ppe_tup (ppa_cons ppe_str (ppa_cons (ppe_ixO 0 (ppe_var 4)) ppa_nil))))
    (ppss_one (pps_augAdd (i := 4) sc_almanac_of.nd ppe_int)))
    (ppss_cons (pps_append 3 (ppe_tup (ppa_cons ppe_str (ppa_cons (ppe_ixO 1 (ppe_var 5)) ppa_nil))))
    (ppss_one (pps_augAdd (i := 5) sc_almanac_of.nd ppe_int))))))
    (ppss_one (pps_ret (ppc_move 3)))))))⟩
set_option maxHeartbeats 4000000 in
theorem bd_are_contrary {k : Nat} : ∀ (cdv : Value) (A : Around) (outer : List Env) (s : Shared) (H : Hp) (E : XK), Room k (A.deeper (envOfC "are_contrary" (defScope s_are_contrary) s.heap.objs.size Z.f_are_contrary cdv)) → ∃ t, PPSs (cxOf CX0 P w K mg base NN_are_contrary "are_contrary" (defScope s_are_contrary) Z.f_are_contrary cdv A outer s H E).nox (defBody s_are_contrary) t (T_are_contrary) :=
  fun cdv A outer s H E hr => ⟨_, (ppss_cons (pps_if (ppt_cmp (cm_eq (hu64 hr)) (ppe_ixO 0 ppe_int) (ppe_ixO 1 ppe_int) (nomark _))
    (ppss_one (pps_ret (ppc_val ppe_bl)))
    ppss_nil)
    (ppss_cons (pps_asg (ppe_ifExp (ppt_cmp (cm_eq (hu64 hr)) (ppe_ixO 0 ppe_int) ppe_str (nomark _)) (ppe_tup (ppa_cons (ppe_var 0) (ppa_cons (ppe_var 1) ppa_nil))) (ppe_tup (ppa_cons (ppe_var 1) (ppa_cons (ppe_var 0) ppa_nil)))) (ptg_tup (n := 2) rfl (ptgs_cons (ptg_name (i := 2) sc_are_contrary.nd) (ptgs_cons (ptg_name (i := 3) sc_are_contrary.nd) ptgs_nil))))
    (ppss_one (pps_ret (ppc_val (ppe_and (ppe_cmp cm_le (ppe_ixO 3 ppe_int) (ppe_ixO 2 ppe_int) (nomark _)) (ppe_one (ppe_cmp cm_le (ppe_ixO 2 ppe_int) (ppe_ixO 3 ppe_int) (nomark _)))))))))⟩
set_option maxHeartbeats 4000000 in
theorem bd_first_clash {k : Nat} {g_are_contrary : FA} (O_are_contrary : FnOk P w K mg base CX0 k Z.f_are_contrary Z.fd_are_contrary [("one" : Str), ("other" : Str)] (spA K 2 g_are_contrary)) : ∀ (cdv : Value) (A : Around) (outer : List Env) (s : Shared) (H : Hp) (E : XK), Room k (A.deeper (envOfC "first_clash" (defScope s_first_clash) s.heap.objs.size Z.f_first_clash cdv)) → ∃ t, PPSs (cxOf CX0 P w K mg base NN_first_clash "first_clash" (defScope s_first_clash) Z.f_first_clash cdv A outer s H E).nox (defBody s_first_clash) t (T_first_clash g_are_contrary) :=
  fun cdv A outer s H E hr => ⟨_, (ppss_cons (pps_for PassesOwn.never rfl (ppi_range1 (by rfl) Z.z_range (ppa_cons (ppe_lenO 0 (by rfl) Z.z_len) ppa_nil)) (ptg_name (i := 1) sc_first_clash.nd)
    (ppss_one (pps_for PassesOwn.never rfl (ppi_range2 (by rfl) Z.z_range (ppa_cons (ppe_add (ppe_var 1) ppe_int) (ppa_cons (ppe_lenO 0 (by rfl) Z.z_len) ppa_nil))) (ptg_name (i := 2) sc_first_clash.nd)
    (ppss_one (pps_if (ppt_val (ppe_frz (ppc_callA O_are_contrary hr (by rfl) Z.m_are_contrary Z.F_are_contrary.kp Z.b_are_contrary (ppa_cons (ppe_ixO 0 (ppe_var 1)) (ppa_cons (ppe_ixO 0 (ppe_var 2)) ppa_nil)))))
    (ppss_one (pps_ret (ppc_val (ppe_tup (ppa_cons (ppe_var 1) (ppa_cons (ppe_var 2) ppa_nil))))))
    ppss_nil)))))
    (ppss_one (pps_ret (ppc_val ppe_non))))⟩
set_option maxHeartbeats 4000000 in
theorem bd_refuse_clash {k : Nat} {g_first_clash : FA} (O_first_clash : FnOk P w K mg base CX0 k Z.f_first_clash Z.fd_first_clash [("words" : Str)] (spA K 1 g_first_clash)) : ∀ (cdv : Value) (A : Around) (outer : List Env) (s : Shared) (H : Hp) (E : XK), Room k (A.deeper (envOfC "refuse_clash" (defScope s_refuse_clash) s.heap.objs.size Z.f_refuse_clash cdv)) → ∃ t, PPSs (cxOf CX0 P w K mg base NN_refuse_clash "refuse_clash" (defScope s_refuse_clash) Z.f_refuse_clash cdv A outer s H E).nox (defBody s_refuse_clash) t (T_refuse_clash g_first_clash) :=
  fun cdv A outer s H E hr => ⟨_, (ppss_cons (pps_set (i := 1) sc_refuse_clash.nd (ppc_callA O_first_clash hr (by rfl) Z.m_first_clash Z.F_first_clash.kp Z.b_first_clash (ppa_cons (ppe_var 0) ppa_nil)))
    (ppss_one (pps_if (ppt_cmp cm_notN (ppe_var 1) ppe_non (nomark _))
    (ppss_one pps_never)
    ppss_nil)))⟩
set_option maxHeartbeats 4000000 in
theorem bd_least_ahead {k : Nat} : ∀ (cdv : Value) (A : Around) (outer : List Env) (s : Shared) (H : Hp) (E : XK), Room k (A.deeper (envOfC "least_ahead" (defScope s_least_ahead) s.heap.objs.size Z.f_least_ahead cdv)) → ∃ t, PPSs (cxOf CX0 P w K mg base NN_least_ahead "least_ahead" (defScope s_least_ahead) Z.f_least_ahead cdv A outer s H E).nox (defBody s_least_ahead) t (T_least_ahead) :=
  fun cdv A outer s H E hr => ⟨_, (ppss_one (pps_ret (ppc_val (ppe_maxD (by rfl) Z.z_max rfl (hu64 hr) (ppe_lcL (own := [("word", 2), ("cut", 3), ("at", 4)]) rfl sc_least_ahead.nd (ppi_seq (ppe_var 0)) (blkOk_by (N := NN_least_ahead) (sc := defScope s_least_ahead) (by decide +kernel)) (fun _ _ _ _ _ => ((ptg_tup (n := 3) rfl (ptgs_cons (ptg_name (i := 2) sc_least_ahead.nd) (ptgs_cons (ptg_name (i := 3) sc_least_ahead.nd) (ptgs_cons (ptg_name (i := 4) sc_least_ahead.nd) ptgs_nil))))).lift) (fun _ _ _ _ _ => ((ppts_one (PPW.ppt (ppw_and (ppt_cmp (cm_eq (hu64 hr)) (ppe_var 2) ppe_str (nomark _)) (ppw_and1 (ppt_cmp cm_le (ppe_var 4) (ppe_var 1) (nomark _))))))).lift) (fun _ _ _ _ _ => ((ppe_add (ppe_var 3) ppe_int)).lift)) ppe_int))))⟩
set_option maxHeartbeats 4000000 in
theorem bd_most_ahead {k : Nat} : ∀ (cdv : Value) (A : Around) (outer : List Env) (s : Shared) (H : Hp) (E : XK), Room k (A.deeper (envOfC "most_ahead" (defScope s_most_ahead) s.heap.objs.size Z.f_most_ahead cdv)) → ∃ t, PPSs (cxOf CX0 P w K mg base NN_most_ahead "most_ahead" (defScope s_most_ahead) Z.f_most_ahead cdv A outer s H E).nox (defBody s_most_ahead) t (T_most_ahead) :=
  fun cdv A outer s H E hr => ⟨_, (ppss_one (pps_ret (ppc_val (ppe_minD (by rfl) Z.z_min rfl (hu64 hr) (ppe_lcL (own := [("word", 3), ("cut", 4), ("at", 5)]) rfl sc_most_ahead.nd (ppi_seq (ppe_var 1)) (blkOk_by (N := NN_most_ahead) (sc := defScope s_most_ahead) (by decide +kernel)) (fun _ _ _ _ _ => ((ptg_tup (n := 3) rfl (ptgs_cons (ptg_name (i := 3) sc_most_ahead.nd) (ptgs_cons (ptg_name (i := 4) sc_most_ahead.nd) (ptgs_cons (ptg_name (i := 5) sc_most_ahead.nd) ptgs_nil))))).lift) (fun _ _ _ _ _ => ((ppts_one (PPW.ppt (ppw_and (ppt_cmp (cm_eq (hu64 hr)) (ppe_var 3) ppe_str (nomark _)) (ppw_and1 (ppt_cmp cm_ge (ppe_var 5) (ppe_var 2) (nomark _))))))).lift) (fun _ _ _ _ _ => ((ppe_var 4)).lift)) (ppe_lenO 0 (by rfl) Z.z_len)))))⟩
set_option maxHeartbeats 4000000 in
theorem bd_bounds {k : Nat} {g_refuse_clash : FA} (O_refuse_clash : FnOk P w K mg base CX0 k Z.f_refuse_clash Z.fd_refuse_clash [("words" : Str)] (spA K 1 g_refuse_clash)) {g_least_ahead : FA} (O_least_ahead : FnOk P w K mg base CX0 k Z.f_least_ahead Z.fd_least_ahead [("words" : Str), ("fill" : Str)] (spA K 2 g_least_ahead)) {g_most_ahead : FA} (O_most_ahead : FnOk P w K mg base CX0 k Z.f_most_ahead Z.fd_most_ahead [("cuts" : Str), ("words" : Str), ("fill" : Str)] (spA K 3 g_most_ahead)) : ∀ (cdv : Value) (A : Around) (outer : List Env) (s : Shared) (H : Hp) (E : XK), Room k (A.deeper (envOfC "bounds" (defScope s_bounds) s.heap.objs.size Z.f_bounds cdv)) → ∃ t, PPSs (cxOf CX0 P w K mg base NN_bounds "bounds" (defScope s_bounds) Z.f_bounds cdv A outer s H E).nox (defBody s_bounds) t (T_bounds g_refuse_clash g_least_ahead g_most_ahead) :=
  fun cdv A outer s H E hr => ⟨_, (ppss_cons (pps_expr (ppe_frz (ppc_callA O_refuse_clash hr (by rfl) Z.m_refuse_clash Z.F_refuse_clash.kp Z.b_refuse_clash (ppa_cons (ppe_var 2) ppa_nil))))
    (ppss_one (pps_ret (ppc_lcL (own := [("fill", 3)]) rfl sc_bounds.nd (ppi_range1 (by rfl) Z.z_range (ppa_cons (ppe_lenO 1 (by rfl) Z.z_len) ppa_nil)) (blkOk_by (N := NN_bounds) (sc := defScope s_bounds) (by decide +kernel)) (fun _ _ _ _ _ => ((ptg_name (i := 3) sc_bounds.nd)).lift) (fun _ _ _ _ _ => (ppts_nil).lift) (fun _ _ _ _ _ => ((ppe_tup (ppa_cons (ppe_frz (ppc_callA O_least_ahead hr (by rfl) Z.m_least_ahead Z.F_least_ahead.kp Z.b_least_ahead (ppa_cons (ppe_var 2) (ppa_cons (ppe_var 3) ppa_nil)))) (ppa_cons (ppe_frz (ppc_callA O_most_ahead hr (by rfl) Z.m_most_ahead Z.F_most_ahead.kp Z.b_most_ahead (ppa_cons (ppe_var 0) (ppa_cons (ppe_var 2) (ppa_cons (ppe_var 3) ppa_nil))))) ppa_nil)))).lift)))))⟩
set_option maxHeartbeats 4000000 in
theorem bd_ways_on {k : Nat} {g_bounds : FA} (O_bounds : FnOk P w K mg base CX0 k Z.f_bounds Z.fd_bounds [("cuts" : Str), ("fills" : Str), ("words" : Str)] (spA K 3 g_bounds)) {g_ways_ahead : FA} (O_ways_ahead : FnOk P w K mg base CX0 k Z.f_ways_ahead Z.fd_ways_ahead [("later" : Str), ("least" : Str), ("most" : Str)] (spA K 3 g_ways_ahead)) : ∀ (cdv : Value) (A : Around) (outer : List Env) (s : Shared) (H : Hp) (E : XK), Room k (A.deeper (envOfC "ways_on" (defScope s_ways_on) s.heap.objs.size Z.f_ways_on cdv)) → ∃ t, PPSs (cxOf CX0 P w K mg base NN_ways_on "ways_on" (defScope s_ways_on) Z.f_ways_on cdv A outer s H E).nox (defBody s_ways_on) t (T_ways_on g_bounds g_ways_ahead) :=
  fun cdv A outer s H E hr => ⟨_, (ppss_cons (pps_set (i := 3) sc_ways_on.nd (ppc_lst (ppa_cons (ppe_add (ppe_rep (ppe_lst (ppa_cons ppe_int ppa_nil)) (ppe_add (ppe_lenO 0 (by rfl) Z.z_len) ppe_int)) (ppe_lst (ppa_cons ppe_int ppa_nil))) ppa_nil)))
    (ppss_cons (pps_for PassesOwn.never rfl (ppi_seq (ppe_rev (ppe_frz (ppc_callA O_bounds hr (by rfl) Z.m_bounds Z.F_bounds.kp Z.b_bounds (ppa_cons (ppe_var 0) (ppa_cons (ppe_var 1) (ppa_cons (ppe_var 2) ppa_nil))))))) (ptg_tup (n := 2) rfl (ptgs_cons (ptg_name (i := 4) sc_ways_on.nd) (ptgs_cons (ptg_name (i := 5) sc_ways_on.nd) ptgs_nil)))
    (ppss_one (pps_append 3 (ppe_frz (ppc_callA O_ways_ahead hr (by rfl) Z.m_ways_ahead Z.F_ways_ahead.kp Z.b_ways_ahead (ppa_cons (ppe_ixO 3 (ppe_neg ppe_int)) (ppa_cons (ppe_var 4) (ppa_cons (ppe_var 5) ppa_nil))))))))
    (ppss_one (pps_ret (ppc_val (ppe_rev (ppe_var 3)))))))⟩
set_option maxHeartbeats 4000000 in
theorem bd_ways_ahead {k : Nat} : ∀ (cdv : Value) (A : Around) (outer : List Env) (s : Shared) (H : Hp) (E : XK), Room k (A.deeper (envOfC "ways_ahead" (defScope s_ways_ahead) s.heap.objs.size Z.f_ways_ahead cdv)) → ∃ t, PPSs (cxOf CX0 P w K mg base NN_ways_ahead "ways_ahead" (defScope s_ways_ahead) Z.f_ways_ahead cdv A outer s H E).nox (defBody s_ways_ahead) t (T_ways_ahead) :=
  fun cdv A outer s H E hr => ⟨_, (ppss_cons (pps_set (i := 3) sc_ways_ahead.nd (ppc_lst ppa_nil))
    (ppss_cons (pps_set (i := 4) sc_ways_ahead.nd (ppc_val ppe_int))
    (ppss_cons (pps_for PassesOwn.never rfl (ppi_rev (by rfl) Z.z_reversed (by rfl) Z.z_range (ppe_lenO 0 (by rfl) Z.z_len)) (ptg_name (i := 5) sc_ways_ahead.nd)
    (ppss_cons (pps_if (ppt_chain cm_le cm_le (ppe_var 1) (ppe_var 5) (ppe_var 2))
    (ppss_one (pps_augAdd (i := 4) sc_ways_ahead.nd (ppe_ixO 0 (ppe_var 5))))
    ppss_nil)
    (ppss_one (pps_append 3 (ppe_var 4)))))
    (ppss_one (pps_ret (ppc_val (ppe_rev (ppe_var 3))))))))⟩
set_option maxHeartbeats 4000000 in
theorem bd_orders_many {k : Nat} {g_ways_on : FA} (O_ways_on : FnOk P w K mg base CX0 k Z.f_ways_on Z.fd_ways_on [("cuts" : Str), ("fills" : Str), ("words" : Str)] (spA K 3 g_ways_on)) : ∀ (cdv : Value) (A : Around) (outer : List Env) (s : Shared) (H : Hp) (E : XK), Room k (A.deeper (envOfC "orders_many" (defScope s_orders_many) s.heap.objs.size Z.f_orders_many cdv)) → ∃ t, PPSs (cxOf CX0 P w K mg base NN_orders_many "orders_many" (defScope s_orders_many) Z.f_orders_many cdv A outer s H E).nox (defBody s_orders_many) t (T_orders_many g_ways_on) :=
  fun cdv A outer s H E hr => ⟨_, (ppss_one (pps_ret (ppc_val (ppe_ix (ppe_ix (ppe_frz (ppc_callA O_ways_on hr (by rfl) Z.m_ways_on Z.F_ways_on.kp Z.b_ways_on (ppa_cons (ppe_var 0) (ppa_cons (ppe_var 1) (ppa_cons (ppe_var 2) ppa_nil))))) ppe_int) ppe_int))))⟩
set_option maxHeartbeats 4000000 in
theorem bd_blown {k : Nat} {g_upside : FA} (O_upside : FnOk P w K mg base CX0 k Z.f_upside Z.fd_upside [("dune" : Str)] (spA K 1 g_upside)) {g_cut_to : FA} (O_cut_to : FnOk P w K mg base CX0 k Z.f_cut_to Z.fd_cut_to [("dune" : Str), ("slope" : Str)] (spA K 2 g_cut_to)) : ∀ (cdv : Value) (A : Around) (outer : List Env) (s : Shared) (H : Hp) (E : XK), Room k (A.deeper (envOfC "blown" (defScope s_blown) s.heap.objs.size Z.f_blown cdv)) → ∃ t, PPSs (cxOf CX0 P w K mg base NN_blown "blown" (defScope s_blown) Z.f_blown cdv A outer s H E).nox (defBody s_blown) t (T_blown g_upside g_cut_to) :=
  fun cdv A outer s H E hr => ⟨_, (ppss_cons (pps_asg (ppe_var 1) (ptg_tup (n := 2) rfl (ptgs_cons (ptg_name (i := 2) sc_blown.nd) (ptgs_cons (ptg_name (i := 3) sc_blown.nd) ptgs_nil))))
    (ppss_cons (pps_if (ppt_cmp (cm_eq (hu64 hr)) (ppe_var 2) ppe_str (nomark _))
    (ppss_one (pps_ret (ppc_callA O_cut_to hr (by rfl) Z.m_cut_to Z.F_cut_to.kp Z.b_cut_to (ppa_cons (ppe_var 0) (ppa_cons (ppe_var 3) ppa_nil)))))
    ppss_nil)
    (ppss_one (pps_ret (ppc_callA O_upside hr (by rfl) Z.m_upside Z.F_upside.kp Z.b_upside (ppa_cons (ppe_frz (ppc_callA O_cut_to hr (by rfl) Z.m_cut_to Z.F_cut_to.kp Z.b_cut_to (ppa_cons (ppe_frz (ppc_callA O_upside hr (by rfl) Z.m_upside Z.F_upside.kp Z.b_upside (ppa_cons (ppe_var 0) ppa_nil))) (ppa_cons (ppe_var 3) ppa_nil)))) ppa_nil))))))⟩
set_option maxHeartbeats 4000000 in
theorem bd_cut_to {k : Nat} {g_mirrored : FA} (O_mirrored : FnOk P w K mg base CX0 k Z.f_mirrored Z.fd_mirrored [("dune" : Str)] (spA K 1 g_mirrored)) {g_cut_onward : FA} (O_cut_onward : FnOk P w K mg base CX0 k Z.f_cut_onward Z.fd_cut_onward [("dune" : Str), ("slope" : Str)] (spA K 2 g_cut_onward)) : ∀ (cdv : Value) (A : Around) (outer : List Env) (s : Shared) (H : Hp) (E : XK), Room k (A.deeper (envOfC "cut_to" (defScope s_cut_to) s.heap.objs.size Z.f_cut_to cdv)) → ∃ t, PPSs (cxOf CX0 P w K mg base NN_cut_to "cut_to" (defScope s_cut_to) Z.f_cut_to cdv A outer s H E).nox (defBody s_cut_to) t (T_cut_to g_mirrored g_cut_onward) :=
  fun cdv A outer s H E hr => ⟨_, (ppss_cons (pps_set (i := 2) sc_cut_to.nd (ppc_callA O_cut_onward hr (by rfl) Z.m_cut_onward Z.F_cut_onward.kp Z.b_cut_onward (ppa_cons (ppe_var 0) (ppa_cons (ppe_var 1) ppa_nil))))
    (ppss_one (pps_ret (ppc_callA O_mirrored hr (by rfl) Z.m_mirrored Z.F_mirrored.kp Z.b_mirrored (ppa_cons (ppe_frz (ppc_callA O_cut_onward hr (by rfl) Z.m_cut_onward Z.F_cut_onward.kp Z.b_cut_onward (ppa_cons (ppe_frz (ppc_callA O_mirrored hr (by rfl) Z.m_mirrored Z.F_mirrored.kp Z.b_mirrored (ppa_cons (ppe_var 2) ppa_nil))) (ppa_cons (ppe_var 1) ppa_nil)))) ppa_nil)))))⟩
set_option maxHeartbeats 4000000 in
theorem bd_cut_onward {k : Nat} : ∀ (cdv : Value) (A : Around) (outer : List Env) (s : Shared) (H : Hp) (E : XK), Room k (A.deeper (envOfC "cut_onward" (defScope s_cut_onward) s.heap.objs.size Z.f_cut_onward cdv)) → ∃ t, PPSs (cxOf CX0 P w K mg base NN_cut_onward "cut_onward" (defScope s_cut_onward) Z.f_cut_onward cdv A outer s H E).nox (defBody s_cut_onward) t (T_cut_onward) :=
  fun cdv A outer s H E hr => ⟨_, (ppss_cons (pps_set (i := 2) sc_cut_onward.nd (ppc_lst (ppa_cons (ppe_ixO 0 ppe_int) ppa_nil)))
    (ppss_cons (pps_for PassesOwn.never rfl (ppi_seq (ppe_slice (ppe_var 0) (ppo_some ppe_int) ppo_none)) (ptg_name (i := 3) sc_cut_onward.nd)
    (ppss_one (pps_append 2 (ppe_callB (call_min2 rfl) cp_min2 (by rfl) Z.z_min (by decide +kernel) (ppa_cons (ppe_var 3) (ppa_cons (ppe_add (ppe_ixO 2 (ppe_neg ppe_int)) (ppe_var 1)) ppa_nil))))))
    (ppss_one (pps_ret (ppc_move 2)))))⟩
set_option maxHeartbeats 4000000 in
theorem bd_is_hand {k : Nat} : ∀ (cdv : Value) (A : Around) (outer : List Env) (s : Shared) (H : Hp) (E : XK), Room k (A.deeper (envOfC "is_hand" (defScope s_is_hand) s.heap.objs.size Z.f_is_hand cdv)) → ∃ t, PPSs (cxOf CX0 P w K mg base NN_is_hand "is_hand" (defScope s_is_hand) Z.f_is_hand cdv A outer s H E).nox (defBody s_is_hand) t (T_is_hand) :=
  fun cdv A outer s H E hr => ⟨_, (ppss_one (pps_ret (ppc_val (ppe_cmp (cm_eq (hu64 hr)) (ppe_ixO 0 ppe_int) ppe_str (nomark _)))))⟩
set_option maxHeartbeats 4000000 in
theorem bd_done {k : Nat} {g_handed : FA} (O_handed : FnOk P w K mg base CX0 k Z.f_handed Z.fd_handed [("dune" : Str), ("post" : Str), ("by" : Str)] (spA K 3 g_handed)) {g_blown : FA} (O_blown : FnOk P w K mg base CX0 k Z.f_blown Z.fd_blown [("dune" : Str), ("wind" : Str)] (spA K 2 g_blown)) {g_is_hand : FA} (O_is_hand : FnOk P w K mg base CX0 k Z.f_is_hand Z.fd_is_hand [("entry" : Str)] (spA K 1 g_is_hand)) : ∀ (cdv : Value) (A : Around) (outer : List Env) (s : Shared) (H : Hp) (E : XK), Room k (A.deeper (envOfC "done" (defScope s_done) s.heap.objs.size Z.f_done cdv)) → ∃ t, PPSs (cxOf CX0 P w K mg base NN_done "done" (defScope s_done) Z.f_done cdv A outer s H E).nox (defBody s_done) t (T_done g_handed g_blown g_is_hand) :=
  fun cdv A outer s H E hr => ⟨_, (ppss_cons (pps_set (i := 2) sc_done.nd (ppc_val (ppe_callTy call_tuple_of cp_tup (by rfl) Z.z_tuple (by decide +kernel) (ppa_cons (ppe_var 0) ppa_nil))))
    (ppss_cons (pps_for PassesOwn.never rfl (ppi_seq (ppe_var 1)) (ptg_name (i := 3) sc_done.nd)
    (ppss_one (pps_set (i := 2) sc_done.nd (ppc_val (ppe_ifExp (ppt_val (ppe_frz (ppc_callA O_is_hand hr (by rfl) Z.m_is_hand Z.F_is_hand.kp Z.b_is_hand (ppa_cons (ppe_var 3) ppa_nil)))) (ppe_frz (ppc_callA O_handed hr (by rfl) Z.m_handed Z.F_handed.kp Z.b_handed (ppa_cons (ppe_var 2) (ppa_cons (ppe_ixO 3 ppe_int) (ppa_cons (ppe_ixO 3 ppe_int) ppa_nil))))) (ppe_frz (ppc_callA O_blown hr (by rfl) Z.m_blown Z.F_blown.kp Z.b_blown (ppa_cons (ppe_var 2) (ppa_cons (ppe_var 3) ppa_nil)))))))))
    (ppss_one (pps_ret (ppc_move 2)))))⟩
set_option maxHeartbeats 4000000 in
theorem bd_entries_with {k : Nat} : ∀ (cdv : Value) (A : Around) (outer : List Env) (s : Shared) (H : Hp) (E : XK), Room k (A.deeper (envOfC "entries_with" (defScope s_entries_with) s.heap.objs.size Z.f_entries_with cdv)) → ∃ t, PPSs (cxOf CX0 P w K mg base NN_entries_with "entries_with" (defScope s_entries_with) Z.f_entries_with cdv A outer s H E).nox (defBody s_entries_with) t (T_entries_with) :=
  fun cdv A outer s H E hr => ⟨_, (ppss_one (pps_ret (ppc_lcL (own := [("entry", 2)]) rfl sc_entries_with.nd (ppi_seq (ppe_var 0)) (blkOk_by (N := NN_entries_with) (sc := defScope s_entries_with) (by decide +kernel)) (fun _ _ _ _ _ => ((ptg_name (i := 2) sc_entries_with.nd)).lift) (fun _ _ _ _ _ => ((ppts_one (ppt_cmp (cm_inT (hu65 hr)) (ppe_ixO 2 ppe_int) (ppe_var 1) rfl))).lift) (fun _ _ _ _ _ => ((ppe_callTy call_tuple_of cp_tup (by rfl) Z.z_tuple (by decide +kernel) (ppa_cons (ppe_var 2) ppa_nil))).lift))))⟩
set_option maxHeartbeats 4000000 in
theorem bd_slopes_between {k : Nat} {g_is_hand : FA} (O_is_hand : FnOk P w K mg base CX0 k Z.f_is_hand Z.fd_is_hand [("entry" : Str)] (spA K 1 g_is_hand)) : ∀ (cdv : Value) (A : Around) (outer : List Env) (s : Shared) (H : Hp) (E : XK), Room k (A.deeper (envOfC "slopes_between" (defScope s_slopes_between) s.heap.objs.size Z.f_slopes_between cdv)) → ∃ t, PPSs (cxOf CX0 P w K mg base NN_slopes_between "slopes_between" (defScope s_slopes_between) Z.f_slopes_between cdv A outer s H E).nox (defBody s_slopes_between) t (T_slopes_between_k56 g_is_hand) :=
  fun cdv A outer s H E hr => ⟨_, (ppss_cons (pps_set (i := 1) sc_slopes_between.nd ppc_mxnew)
    (ppss_cons (pps_for PassesOwn.never rfl (ppi_seq (ppe_var 0)) (ptg_name (i := 2) sc_slopes_between.nd)
    (ppss_one (pps_if (ppt_val (ppe_frz (ppc_callA O_is_hand hr (by rfl) Z.m_is_hand Z.F_is_hand.kp Z.b_is_hand (ppa_cons (ppe_var 2) ppa_nil))))
    (ppss_one (pps_mxApp0 1))
    (ppss_one (pps_mxApp 1 (ppe_neg ppe_int) (ppe_ixO 2 ppe_int))))))
    (ppss_one (pps_ret (ppc_move 1)))))⟩
set_option maxHeartbeats 4000000 in
theorem bd_same_hands {k : Nat} {g_entries_with : FA} (O_entries_with : FnOk P w K mg base CX0 k Z.f_entries_with Z.fd_entries_with [("entries" : Str), ("words" : Str)] (spA K 2 g_entries_with)) : ∀ (cdv : Value) (A : Around) (outer : List Env) (s : Shared) (H : Hp) (E : XK), Room k (A.deeper (envOfC "same_hands" (defScope s_same_hands) s.heap.objs.size Z.f_same_hands cdv)) → ∃ t, PPSs (cxOf CX0 P w K mg base NN_same_hands "same_hands" (defScope s_same_hands) Z.f_same_hands cdv A outer s H E).nox (defBody s_same_hands) t (T_same_hands g_entries_with) :=
  fun cdv A outer s H E hr => ⟨_, (ppss_cons (pps_set (i := 2) sc_same_hands.nd (ppc_callA O_entries_with hr (by rfl) Z.m_entries_with Z.F_entries_with.kp Z.b_entries_with (ppa_cons (ppe_var 0) (ppa_cons (ppe_tup (ppa_cons ppe_str ppa_nil)) ppa_nil))))
    (ppss_cons (pps_set (i := 3) sc_same_hands.nd (ppc_callA O_entries_with hr (by rfl) Z.m_entries_with Z.F_entries_with.kp Z.b_entries_with (ppa_cons (ppe_var 1) (ppa_cons (ppe_tup (ppa_cons ppe_str ppa_nil)) ppa_nil))))
    (ppss_cons (pps_for PassesOwn.never rfl (ppi_range1 (by rfl) Z.z_range (ppa_cons (ppe_callB (call_max2 rfl) cp_max2 (by rfl) Z.z_max (by decide +kernel) (ppa_cons (ppe_lenO 2 (by rfl) Z.z_len) (ppa_cons (ppe_lenO 3 (by rfl) Z.z_len) ppa_nil))) ppa_nil)) (ptg_name (i := 4) sc_same_hands.nd)
    (ppss_one (pps_if (ppt_cmp (cm_ne (hu64 hr)) (ppe_slice (ppe_var 2) (ppo_some (ppe_var 4)) (ppo_some (ppe_add (ppe_var 4) ppe_int))) (ppe_slice (ppe_var 3) (ppo_some (ppe_var 4)) (ppo_some (ppe_add (ppe_var 4) ppe_int))) (nomark _))
    (ppss_one pps_never)
    ppss_nil)))
    (ppss_one (pps_ret (ppc_move 2))))))⟩
set_option maxHeartbeats 4000000 in
theorem bd_stretches {k : Nat} {g_slopes_between : FA} (O_slopes_between : FnOk P w K mg base CX0 k Z.f_slopes_between Z.fd_slopes_between [("book" : Str)] (spA K 1 g_slopes_between)) {g_same_hands : FA} (O_same_hands : FnOk P w K mg base CX0 k Z.f_same_hands Z.fd_same_hands [("cutter" : Str), ("filler" : Str)] (spA K 2 g_same_hands)) : ∀ (cdv : Value) (A : Around) (outer : List Env) (s : Shared) (H : Hp) (E : XK), Room k (A.deeper (envOfC "stretches" (defScope s_stretches) s.heap.objs.size Z.f_stretches cdv)) → ∃ t, PPSs (cxOf CX0 P w K mg base NN_stretches "stretches" (defScope s_stretches) Z.f_stretches cdv A outer s H E).nox (defBody s_stretches) t (T_stretches_k56 g_slopes_between g_same_hands) :=
  fun cdv A outer s H E hr => ⟨_, (ppss_cons (pps_set (i := 2) sc_stretches.nd (ppc_callA O_same_hands hr (by rfl) Z.m_same_hands Z.F_same_hands.kp Z.b_same_hands (ppa_cons (ppe_var 0) (ppa_cons (ppe_var 1) ppa_nil))))
    (ppss_one (pps_ret (ppc_zipSt rfl (by rfl) Z.z_list (by rfl) Z.z_zip (ppbs_cons (ppc_callA O_slopes_between hr (by rfl) Z.m_slopes_between Z.F_slopes_between.kp Z.b_slopes_between (ppa_cons (ppe_var 0) ppa_nil)) (ppbs_cons (ppc_callA O_slopes_between hr (by rfl) Z.m_slopes_between Z.F_slopes_between.kp Z.b_slopes_between (ppa_cons (ppe_var 1) ppa_nil)) (ppbs_cons (ppc_val (ppe_lst (ppa_star (ppe_var 2) (ppa_cons ppe_non ppa_nil)))) ppbs_nil)))))))⟩
set_option maxHeartbeats 4000000 in
theorem bd_all_of_one_first {k : Nat} {g_almanac_of : FA} (O_almanac_of : FnOk P w K mg base CX0 k Z.f_almanac_of Z.fd_almanac_of [("cuts" : Str), ("fills" : Str), ("order" : Str)] (spA K 3 g_almanac_of)) : ∀ (cdv : Value) (A : Around) (outer : List Env) (s : Shared) (H : Hp) (E : XK), Room k (A.deeper (envOfC "all_of_one_first" (defScope s_all_of_one_first) s.heap.objs.size Z.f_all_of_one_first cdv)) → ∃ t, PPSs (cxOf CX0 P w K mg base NN_all_of_one_first "all_of_one_first" (defScope s_all_of_one_first) Z.f_all_of_one_first cdv A outer s H E).nox (defBody s_all_of_one_first) t (T_all_of_one_first g_almanac_of) :=
  fun cdv A outer s H E hr => ⟨_, (ppss_cons (pps_set (i := 2) sc_all_of_one_first.nd (ppc_lst ppa_nil))
    (ppss_cons (pps_for PassesOwn.never rfl (ppi_seq (ppe_var 0)) (ptg_tup (n := 3) rfl (ptgs_cons (ptg_name (i := 3) sc_all_of_one_first.nd) (ptgs_cons (ptg_name (i := 4) sc_all_of_one_first.nd) (ptgs_cons (ptg_name (i := 5) sc_all_of_one_first.nd) ptgs_nil))))
    (ppss_cons (pps_par (i := 6) (j := 7) rfl sc_all_of_one_first.nd (ppa_cons (ppe_mulS ppe_str (ppe_lenO 3 (by rfl) Z.z_len)) (ppa_cons (ppe_mulS ppe_str (ppe_lenO 4 (by rfl) Z.z_len)) ppa_nil)))
    (ppss_cons (pps_extend 2 (ppe_frz (ppc_callA O_almanac_of hr (by rfl) Z.m_almanac_of Z.F_almanac_of.kp Z.b_almanac_of (ppa_cons (ppe_var 3) (ppa_cons (ppe_var 4) (ppa_cons (ppe_ifExp (ppt_cmp (cm_eq (hu64 hr)) (ppe_var 1) ppe_str (nomark _)) (ppe_add (ppe_var 6) (ppe_var 7)) (ppe_add (ppe_var 7) (ppe_var 6))) ppa_nil))))))
    (ppss_one (pps_if (ppt_cmp cm_notN (ppe_var 5) ppe_non (nomark _))
    (ppss_one (pps_append 2 (ppe_var 5)))
    ppss_nil)))))
    (ppss_one (pps_ret (ppc_move 2)))))⟩
set_option maxHeartbeats 4000000 in
theorem bd_long_may {k : Nat} {g_done : FA} (O_done : FnOk P w K mg base CX0 k Z.f_done Z.fd_done [("dune" : Str), ("entries" : Str)] (spA K 2 g_done)) {g_stretches : FA} (O_stretches : FnOk P w K mg base CX0 k Z.f_stretches Z.fd_stretches [("cutter" : Str), ("filler" : Str)] (spA K 2 g_stretches)) {g_all_of_one_first : FA} (O_all_of_one_first : FnOk P w K mg base CX0 k Z.f_all_of_one_first Z.fd_all_of_one_first [("parts" : Str), ("word" : Str)] (spA K 2 g_all_of_one_first)) : ∀ (cdv : Value) (A : Around) (outer : List Env) (s : Shared) (H : Hp) (E : XK), Room k (A.deeper (envOfC "long_may" (defScope s_long_may) s.heap.objs.size Z.f_long_may cdv)) → ∃ t, PPSs (cxOf CX0 P w K mg base NN_long_may "long_may" (defScope s_long_may) Z.f_long_may cdv A outer s H E).nox (defBody s_long_may) t (T_long_may_k56 g_done g_stretches g_all_of_one_first) :=
  fun cdv A outer s H E hr => ⟨_, (ppss_cons (pps_set (i := 3) sc_long_may.nd (ppc_val (ppe_stFrz (ppc_callA O_stretches hr (by rfl) Z.m_stretches Z.F_stretches.kp Z.b_stretches (ppa_cons (ppe_var 1) (ppa_cons (ppe_var 2) ppa_nil))))))
    (ppss_one (pps_ret (ppc_val (ppe_tup (ppa_cons (ppe_frz (ppc_callA O_done hr (by rfl) Z.m_done Z.F_done.kp Z.b_done (ppa_cons (ppe_var 0) (ppa_cons (ppe_frz (ppc_callA O_all_of_one_first hr (by rfl) Z.m_all_of_one_first Z.F_all_of_one_first.kp Z.b_all_of_one_first (ppa_cons (ppe_var 3) (ppa_cons ppe_str ppa_nil)))) ppa_nil)))) (ppa_cons (ppe_frz (ppc_callA O_done hr (by rfl) Z.m_done Z.F_done.kp Z.b_done (ppa_cons (ppe_var 0) (ppa_cons (ppe_frz (ppc_callA O_all_of_one_first hr (by rfl) Z.m_all_of_one_first Z.F_all_of_one_first.kp Z.b_all_of_one_first (ppa_cons (ppe_var 3) (ppa_cons ppe_str ppa_nil)))) ppa_nil)))) ppa_nil)))))))⟩
set_option maxHeartbeats 4000000 in
theorem bd_long_many {k : Nat} {g_orders_many : FA} (O_orders_many : FnOk P w K mg base CX0 k Z.f_orders_many Z.fd_orders_many [("cuts" : Str), ("fills" : Str), ("words" : Str)] (spA K 3 g_orders_many)) {g_stretches : FA} (O_stretches : FnOk P w K mg base CX0 k Z.f_stretches Z.fd_stretches [("cutter" : Str), ("filler" : Str)] (spA K 2 g_stretches)) : ∀ (cdv : Value) (A : Around) (outer : List Env) (s : Shared) (H : Hp) (E : XK), Room k (A.deeper (envOfC "long_many" (defScope s_long_many) s.heap.objs.size Z.f_long_many cdv)) → ∃ t, PPSs (cxOf CX0 P w K mg base NN_long_many "long_many" (defScope s_long_many) Z.f_long_many cdv A outer s H E).nox (defBody s_long_many) t (T_long_many g_orders_many g_stretches) :=
  fun cdv A outer s H E hr => ⟨_, (ppss_cons (pps_set (i := 2) sc_long_many.nd (ppc_val ppe_int))
    (ppss_cons (pps_for PassesOwn.never rfl (ppi_seq (ppe_stFrz (ppc_callA O_stretches hr (by rfl) Z.m_stretches Z.F_stretches.kp Z.b_stretches (ppa_cons (ppe_var 0) (ppa_cons (ppe_var 1) ppa_nil))))) (ptg_tup (n := 3) rfl (ptgs_cons (ptg_name (i := 3) sc_long_many.nd) (ptgs_cons (ptg_name (i := 4) sc_long_many.nd) (ptgs_cons (ptg_name (i := 5) sc_long_many.nd) ptgs_nil))))
    (ppss_one (pps_augMul (i := 2) sc_long_many.nd (ppe_frz (ppc_callA O_orders_many hr (by rfl) Z.m_orders_many Z.F_orders_many.kp Z.b_orders_many (ppa_cons (ppe_var 3) (ppa_cons (ppe_var 4) (ppa_cons (ppe_lst ppa_nil) ppa_nil))))))))
    (ppss_one (pps_ret (ppc_move 2)))))⟩
set_option maxHeartbeats 4000000 in
theorem bd__law_cell_at {k : Nat} : ∀ (cdv : Value) (A : Around) (outer : List Env) (s : Shared) (H : Hp) (E : XK), Room k (A.deeper (envOfC "_law_cell_at" (defScope s__law_cell_at) s.heap.objs.size Z.f__law_cell_at cdv)) → ∃ t, PPSs (cxOf CX0 P w K mg base NN__law_cell_at "_law_cell_at" (defScope s__law_cell_at) Z.f__law_cell_at cdv A outer s H E).nox (defBody s__law_cell_at) t (T__law_cell_at) :=
  fun cdv A outer s H E hr => ⟨_, (ppss_cons (pps_if (ppt_cmp cm_lt (ppe_var 1) (ppe_lenO 0 (by rfl) Z.z_len) (nomark _))
    (ppss_one (pps_ret (ppc_val (ppe_ixO 0 (ppe_var 1)))))
    ppss_nil)
    (ppss_one (pps_ret (ppc_val ppe_int))))⟩
set_option maxHeartbeats 4000000 in
theorem bd__law_box {k : Nat} {g__law_cell_at : FA} (O__law_cell_at : FnOk P w K mg base CX0 k Z.f__law_cell_at Z.fd__law_cell_at [("_law_script" : Str), ("_law_k" : Str)] (spA K 2 g__law_cell_at)) : ∀ (cdv : Value) (A : Around) (outer : List Env) (s : Shared) (H : Hp) (E : XK), Room k (A.deeper (envOfC "_law_box" (defScope s__law_box) s.heap.objs.size Z.f__law_box cdv)) → ∃ t, PPSs (cxOf CX0 P w K mg base NN__law_box "_law_box" (defScope s__law_box) Z.f__law_box cdv A outer s H E).nox (defBody s__law_box) t (T__law_box g__law_cell_at) :=
  fun cdv A outer s H E hr => ⟨_, (ppss_cons (pps_set (i := 2) sc__law_box.nd (ppc_callA O__law_cell_at hr (by rfl) Z.m__law_cell_at Z.F__law_cell_at.kp Z.b__law_cell_at (ppa_cons (ppe_var 0) (ppa_cons (ppe_var 1) ppa_nil))))
    (ppss_one (pps_ret (ppc_lst (ppa_cons (ppe_mul (ppe_callB call_abs cp_abs (by rfl) Z.z_abs (by decide +kernel) (ppa_cons (ppe_var 2) ppa_nil)) (ppe_callTy call_int1 cp_int1 (by rfl) Z.z_int (by decide +kernel) (ppa_cons (ppe_cmp cm_ge (ppe_callB call_abs cp_abs (by rfl) Z.z_abs (by decide +kernel) (ppa_cons (ppe_var 2) ppa_nil)) (ppe_powc 1000000000000000000) (nomark _)) ppa_nil))) (ppa_cons (ppe_add (ppe_add (ppe_mod (ppe_var 2) ppe_int) (ppe_mul ppe_int (ppe_var 1))) ppe_int) (ppa_cons ppe_int ppa_nil)))))))⟩
set_option maxHeartbeats 4000000 in
theorem bd__law_take {k : Nat} {g__law_take : FB} (O__law_take : FnOk P w K mg base CX0 k Z.f__law_take Z.fd__law_take [("_law_box_here" : Str), ("_law_size" : Str)] (spB K 2 g__law_take)) : ∀ (cdv : Value) (A : Around) (outer : List Env) (s : Shared) (H : Hp) (E : XK), Room k (A.deeper (envOfC "_law_take" (defScope s__law_take) s.heap.objs.size Z.f__law_take cdv)) → ∃ t, PPSs (cxOf CX0 P w K mg base NN__law_take "_law_take" (defScope s__law_take) Z.f__law_take cdv A outer s H E).nox (defBody s__law_take) t (T__law_take g__law_take) :=
  fun cdv A outer s H E hr => ⟨_, (ppss_cons (pps_if (ppt_cmp cm_gt (ppe_ixO 0 ppe_int) ppe_int (nomark _))
    (ppss_cons (pps_set (i := 2) sc__law_take.nd (ppc_val (ppe_mod (ppe_ixO 0 ppe_int) (ppe_var 1))))
    (ppss_cons (pps_store 0 ppe_int (ppe_div (ppe_ixO 0 ppe_int) (ppe_var 1)))
    (ppss_one (pps_ret (ppc_move 2)))))
    ppss_nil)
    (ppss_cons (pps_if (ppt_cmp cm_gt (ppe_var 1) (ppe_powc 10000000) (nomark _))
    (ppss_one (pps_ret (ppc_val (ppe_mod (ppe_add (ppe_frz (ppc_callB 0 O__law_take hr (by rfl) Z.m__law_take Z.F__law_take.kp Z.b__law_take (ppa_cons (ppe_powc 10000000) ppa_nil))) (ppe_mul (ppe_powc 10000000) (ppe_frz (ppc_callB 0 O__law_take hr (by rfl) Z.m__law_take Z.F__law_take.kp Z.b__law_take (ppa_cons (ppe_add (ppe_div (ppe_sub (ppe_var 1) ppe_int) (ppe_powc 10000000)) ppe_int) ppa_nil))))) (ppe_var 1)))))
    ppss_nil)
    (ppss_cons (pps_store 0 ppe_int (ppe_add (ppe_ixO 0 ppe_int) ppe_int))
    (ppss_cons (pps_set (i := 3) sc__law_take.nd (ppc_val (ppe_mod (ppe_mul (ppe_add (ppe_ixO 0 ppe_int) (ppe_mul ppe_int (ppe_ixO 0 ppe_int))) (ppe_add ppe_int (ppe_ixO 0 ppe_int))) ppe_int)))
    (ppss_cons (pps_set (i := 4) sc__law_take.nd (ppc_val (ppe_mod (ppe_mul (ppe_add (ppe_add (ppe_var 3) (ppe_ixO 0 ppe_int)) (ppe_div (ppe_ixO 0 ppe_int) ppe_int)) (ppe_add (ppe_mod (ppe_var 3) ppe_int) ppe_int)) ppe_int)))
    (ppss_one (pps_ret (ppc_val (ppe_mod (ppe_div (ppe_mod (ppe_add (ppe_mul (ppe_var 4) ppe_int) (ppe_var 3)) ppe_int) ppe_int) (ppe_var 1))))))))))⟩
set_option maxHeartbeats 4000000 in
theorem bd__law_of {k : Nat} {g__law_take : FB} (O__law_take : FnOk P w K mg base CX0 k Z.f__law_take Z.fd__law_take [("_law_box_here" : Str), ("_law_size" : Str)] (spB K 2 g__law_take)) : ∀ (cdv : Value) (A : Around) (outer : List Env) (s : Shared) (H : Hp) (E : XK), Room k (A.deeper (envOfC "_law_of" (defScope s__law_of) s.heap.objs.size Z.f__law_of cdv)) → ∃ t, PPSs (cxOf CX0 P w K mg base NN__law_of "_law_of" (defScope s__law_of) Z.f__law_of cdv A outer s H E).nox (defBody s__law_of) t (T__law_of g__law_take) :=
  fun cdv A outer s H E hr => ⟨_, (ppss_one (pps_ret (ppc_val (ppe_ixO 1 (ppe_frz (ppc_callB 0 O__law_take hr (by rfl) Z.m__law_take Z.F__law_take.kp Z.b__law_take (ppa_cons (ppe_lenO 1 (by rfl) Z.z_len) ppa_nil)))))))⟩
set_option maxHeartbeats 4000000 in
theorem bd__law_same {k : Nat} {g__law_same : FA} (O__law_same : FnOk P w K mg base CX0 k Z.f__law_same Z.fd__law_same [("_law_told_here" : Str), ("_law_due_here" : Str)] (spA K 2 g__law_same)) : ∀ (cdv : Value) (A : Around) (outer : List Env) (s : Shared) (H : Hp) (E : XK), Room k (A.deeper (envOfC "_law_same" (defScope s__law_same) s.heap.objs.size Z.f__law_same cdv)) → ∃ t, PPSs (cxOf CX0 P w K mg base NN__law_same "_law_same" (defScope s__law_same) Z.f__law_same cdv A outer s H E).nox (defBody s__law_same) t (T__law_same g__law_same) :=
  fun cdv A outer s H E hr => ⟨_, (ppss_cons (pps_if (ppt_val (ppe_isi2 isT_list isT_tuple (by rfl) Z.z_isinstance (by rfl) Z.z_list (by rfl) Z.z_tuple (ppe_var 1)))
    (ppss_cons (pps_if (PPW.ppt (ppw_or (ppt_cmp (cm_ne (hu64 hr)) (ppe_isi isT_list (by rfl) Z.z_isinstance (by rfl) Z.z_list (ppe_var 0)) (ppe_isi isT_list (by rfl) Z.z_isinstance (by rfl) Z.z_list (ppe_var 1)) (nomark _)) (ppw_or1 (ppt_cmp (cm_ne (hu64 hr)) (ppe_isi isT_tuple (by rfl) Z.z_isinstance (by rfl) Z.z_tuple (ppe_var 0)) (ppe_isi isT_tuple (by rfl) Z.z_isinstance (by rfl) Z.z_tuple (ppe_var 1)) (nomark _)))))
    (ppss_one (pps_ret (ppc_val ppe_bl)))
    ppss_nil)
    (ppss_one (pps_ret (ppc_val (ppe_and (ppe_cmp (cm_eq (hu64 hr)) (ppe_lenO 0 (by rfl) Z.z_len) (ppe_lenO 1 (by rfl) Z.z_len) (nomark _)) (ppe_one (ppe_callB (cr_all rfl) cp_all (by rfl) Z.z_all (by decide +kernel) (ppa_cons (ppe_lcL (own := [("_law_one", 2), ("_law_two", 3)]) rfl sc__law_same.nd (ppi_z2 (by rfl) Z.z_zip (ppa_cons (ppe_var 0) (ppa_cons (ppe_var 1) ppa_nil))) (blkOk_by (N := NN__law_same) (sc := defScope s__law_same) (by decide +kernel)) (fun _ _ _ _ _ => ((ptg_tup (n := 2) rfl (ptgs_cons (ptg_name (i := 2) sc__law_same.nd) (ptgs_cons (ptg_name (i := 3) sc__law_same.nd) ptgs_nil)))).lift) (fun _ _ _ _ _ => (ppts_nil).lift) (fun _ _ _ _ _ => ((ppe_frz (ppc_callA O__law_same hr (by rfl) Z.m__law_same Z.F__law_same.kp Z.b__law_same (ppa_cons (ppe_var 2) (ppa_cons (ppe_var 3) ppa_nil))))).lift)) ppa_nil))))))))
    ppss_nil)
    (ppss_cons (pps_if (PPW.ppt (ppw_or (ppt_cmp cm_isN (ppe_var 1) ppe_non (nomark _)) (ppw_or1 (ppt_val (ppe_isi2 isT_bool isT_str (by rfl) Z.z_isinstance (by rfl) Z.z_bool (by rfl) Z.z_str (ppe_var 1))))))
    (ppss_one (pps_ret (ppc_val (ppe_and (ppe_cmp (cm_eq (hu64 hr)) (ppe_var 0) (ppe_var 1) (nomark _)) (ppe_and (ppe_cmp (cm_eq (hu64 hr)) (ppe_isi isT_bool (by rfl) Z.z_isinstance (by rfl) Z.z_bool (ppe_var 0)) (ppe_isi isT_bool (by rfl) Z.z_isinstance (by rfl) Z.z_bool (ppe_var 1)) (nomark _)) (ppe_one (ppe_cmp (cm_eq (hu64 hr)) (ppe_cmp cm_isN (ppe_var 0) ppe_non (nomark _)) (ppe_cmp cm_isN (ppe_var 1) ppe_non (nomark _)) (nomark _))))))))
    ppss_nil)
    (ppss_one (pps_ret (ppc_val (ppe_and (ppe_isi isT_int (by rfl) Z.z_isinstance (by rfl) Z.z_int (ppe_var 0)) (ppe_and (ppe_not (ppe_isi isT_bool (by rfl) Z.z_isinstance (by rfl) Z.z_bool (ppe_var 0))) (ppe_one (ppe_cmp (cm_eq (hu64 hr)) (ppe_var 0) (ppe_var 1) (nomark _))))))))))⟩
set_option maxHeartbeats 4000000 in
theorem bd__law_slope {k : Nat} {g__law_take : FB} (O__law_take : FnOk P w K mg base CX0 k Z.f__law_take Z.fd__law_take [("_law_box_here" : Str), ("_law_size" : Str)] (spB K 2 g__law_take)) : ∀ (cdv : Value) (A : Around) (outer : List Env) (s : Shared) (H : Hp) (E : XK), Room k (A.deeper (envOfC "_law_slope" (defScope s__law_slope) s.heap.objs.size Z.f__law_slope cdv)) → ∃ t, PPSs (cxOf CX0 P w K mg base NN__law_slope "_law_slope" (defScope s__law_slope) Z.f__law_slope cdv A outer s H E).nox (defBody s__law_slope) t (T__law_slope g__law_take) :=
  fun cdv A outer s H E hr => ⟨_, (ppss_one (pps_ret (ppc_callB 0 O__law_take hr (by rfl) Z.m__law_take Z.F__law_take.kp Z.b__law_take (ppa_cons (ppe_ix (ppe_lst (ppa_cons ppe_int (ppa_cons ppe_int (ppa_cons ppe_int (ppa_cons (ppe_powc 1000000000) ppa_nil))))) (ppe_frz (ppc_callB 0 O__law_take hr (by rfl) Z.m__law_take Z.F__law_take.kp Z.b__law_take (ppa_cons ppe_int ppa_nil)))) ppa_nil))))⟩
set_option maxHeartbeats 4000000 in
theorem bd__law_lists {k : Nat} {g__law_lists : FA} (O__law_lists : FnOk P w K mg base CX0 k Z.f__law_lists Z.fd__law_lists [("_law_thing" : Str)] (spA K 1 g__law_lists)) : ∀ (cdv : Value) (A : Around) (outer : List Env) (s : Shared) (H : Hp) (E : XK), Room k (A.deeper (envOfC "_law_lists" (defScope s__law_lists) s.heap.objs.size Z.f__law_lists cdv)) → ∃ t, PPSs (cxOf CX0 P w K mg base NN__law_lists "_law_lists" (defScope s__law_lists) Z.f__law_lists cdv A outer s H E).nox (defBody s__law_lists) t (T__law_lists g__law_lists) :=
  fun cdv A outer s H E hr => ⟨_, (ppss_one (pps_ret (ppc_val (ppe_ifExp (ppt_val (ppe_isi2 isT_list isT_tuple (by rfl) Z.z_isinstance (by rfl) Z.z_list (by rfl) Z.z_tuple (ppe_var 0))) (ppe_lcL (own := [("_law_one", 1)]) rfl sc__law_lists.nd (ppi_seq (ppe_var 0)) (blkOk_by (N := NN__law_lists) (sc := defScope s__law_lists) (by decide +kernel)) (fun _ _ _ _ _ => ((ptg_name (i := 1) sc__law_lists.nd)).lift) (fun _ _ _ _ _ => (ppts_nil).lift) (fun _ _ _ _ _ => ((ppe_frz (ppc_callA O__law_lists hr (by rfl) Z.m__law_lists Z.F__law_lists.kp Z.b__law_lists (ppa_cons (ppe_var 1) ppa_nil)))).lift)) (ppe_var 0)))))⟩
set_option maxHeartbeats 4000000 in
theorem bd__law_entries {k : Nat} {g__law_take : FB} (O__law_take : FnOk P w K mg base CX0 k Z.f__law_take Z.fd__law_take [("_law_box_here" : Str), ("_law_size" : Str)] (spB K 2 g__law_take)) {g__law_slope : FB} (O__law_slope : FnOk P w K mg base CX0 k Z.f__law_slope Z.fd__law_slope [("_law_box_here" : Str)] (spB K 1 g__law_slope)) : ∀ (cdv : Value) (A : Around) (outer : List Env) (s : Shared) (H : Hp) (E : XK), Room k (A.deeper (envOfC "_law_entries" (defScope s__law_entries) s.heap.objs.size Z.f__law_entries cdv)) → ∃ t, PPSs (cxOf CX0 P w K mg base NN__law_entries "_law_entries" (defScope s__law_entries) Z.f__law_entries cdv A outer s H E).nox (defBody s__law_entries) t (T__law_entries g__law_take g__law_slope) :=
  fun cdv A outer s H E hr => ⟨_, (ppss_cons (pps_set (i := 3) sc__law_entries.nd (ppc_lst ppa_nil))
    (ppss_cons (pps_for PassesOwn.never rfl (ppi_range1 (by rfl) Z.z_range (ppa_cons (ppe_frz (ppc_callB 0 O__law_take hr (by rfl) Z.m__law_take Z.F__law_take.kp Z.b__law_take (ppa_cons (ppe_add (ppe_var 2) ppe_int) ppa_nil))) ppa_nil)) (ptg_name (i := 4) sc__law_entries.nd)
    (ppss_cons (pps_set (i := 5) sc__law_entries.nd (ppc_callB 0 O__law_take hr (by rfl) Z.m__law_take Z.F__law_take.kp Z.b__law_take (ppa_cons ppe_int ppa_nil)))
    (ppss_cons (pps_set (i := 6) sc__law_entries.nd (ppc_val (ppe_ix (ppe_lst (ppa_cons ppe_int (ppa_cons (ppe_neg ppe_int) (ppa_cons (ppe_add ppe_int (ppe_frz (ppc_callB 0 O__law_take hr (by rfl) Z.m__law_take Z.F__law_take.kp Z.b__law_take (ppa_cons ppe_int ppa_nil)))) (ppa_cons (ppe_sub (ppe_neg ppe_int) (ppe_frz (ppc_callB 0 O__law_take hr (by rfl) Z.m__law_take Z.F__law_take.kp Z.b__law_take (ppa_cons ppe_int ppa_nil)))) ppa_nil))))) (ppe_frz (ppc_callB 0 O__law_take hr (by rfl) Z.m__law_take Z.F__law_take.kp Z.b__law_take (ppa_cons ppe_int ppa_nil))))))
    (ppss_cons (pps_set (i := 7) sc__law_entries.nd (ppc_val (ppe_tup (ppa_cons (ppe_ix (ppe_lst (ppa_cons ppe_str (ppa_cons ppe_str ppa_nil))) (ppe_mod (ppe_var 5) ppe_int)) (ppa_cons (ppe_frz (ppc_callB 0 O__law_slope hr (by rfl) Z.m__law_slope Z.F__law_slope.kp Z.b__law_slope ppa_nil)) ppa_nil)))))
    (ppss_one (pps_append 3 (ppe_ifExp (ppt_cmp (cm_eq (hu64 hr)) (ppe_var 5) ppe_int (nomark _)) (ppe_tup (ppa_cons ppe_str (ppa_cons (ppe_frz (ppc_callB 0 O__law_take hr (by rfl) Z.m__law_take Z.F__law_take.kp Z.b__law_take (ppa_cons (ppe_var 1) ppa_nil))) (ppa_cons (ppe_var 6) ppa_nil)))) (ppe_var 7))))))))
    (ppss_one (pps_ret (ppc_move 3)))))⟩
set_option maxHeartbeats 4000000 in
theorem bd__law_books_of {k : Nat} : ∀ (cdv : Value) (A : Around) (outer : List Env) (s : Shared) (H : Hp) (E : XK), Room k (A.deeper (envOfC "_law_books_of" (defScope s__law_books_of) s.heap.objs.size Z.f__law_books_of cdv)) → ∃ t, PPSs (cxOf CX0 P w K mg base NN__law_books_of "_law_books_of" (defScope s__law_books_of) Z.f__law_books_of cdv A outer s H E).nox (defBody s__law_books_of) t (T__law_books_of) :=
  fun cdv A outer s H E hr => ⟨_, (ppss_one (pps_ret (ppc_lcL (own := [("_law_word", 1)]) rfl sc__law_books_of.nd (ppi_seq (ppe_tup (ppa_cons ppe_str (ppa_cons ppe_str ppa_nil)))) (blkOk_by (N := NN__law_books_of) (sc := defScope s__law_books_of) (by decide +kernel)) (fun _ _ _ _ _ => ((ptg_name (i := 1) sc__law_books_of.nd)).lift) (fun _ _ _ _ _ => (ppts_nil).lift) (fun _ _ _ _ _ => ((ppe_lcL (own := [("_law_entry", 2)]) rfl sc__law_books_of.nd (ppi_seq (ppe_var 0)) (by refine blkOk_by ?_; first | rfl | with_unfolding_all rfl) (fun _ _ _ _ _ => ((ptg_name (i := 2) sc__law_books_of.nd)).lift) (fun _ _ _ _ _ => ((ppts_one (ppt_cmp (cm_inT (hu65 hr)) (ppe_ixO 2 ppe_int) (ppe_tup (ppa_cons (ppe_var 1) (ppa_cons ppe_str ppa_nil))) rfl))).lift) (fun _ _ _ _ _ => ((ppe_var 2)).lift))).lift))))⟩
set_option maxHeartbeats 4000000 in
theorem bd__law_due {k : Nat} : ∀ (cdv : Value) (A : Around) (outer : List Env) (s : Shared) (H : Hp) (E : XK), Room k (A.deeper (envOfC "_law_due" (defScope s__law_due) s.heap.objs.size Z.f__law_due cdv)) → ∃ t, PPSs (cxOf CX0 P w K mg base NN__law_due "_law_due" (defScope s__law_due) Z.f__law_due cdv A outer s H E).nox (defBody s__law_due) t (T__law_due) :=
  fun cdv A outer s H E hr => ⟨_, (ppss_cons (pps_parC3 (i := 1) (j := 2) (l := 3) rfl sc__law_due.nd (ppcs_cons (ppc_lst ppa_nil) (ppcs_cons (ppc_lst ppa_nil) (ppcs_cons (ppc_lst ppa_nil) ppcs_nil))))
    (ppss_cons (pps_for PassesOwn.never rfl (ppi_seq (ppe_var 0)) (ptg_name (i := 4) sc__law_due.nd)
    (ppss_one (pps_if (ppt_cmp (cm_eq (hu64 hr)) (ppe_ixO 4 ppe_int) ppe_str (nomark _))
    (ppss_cons (pps_append 1 (ppe_tup (ppa_cons (ppe_var 2) (ppa_cons (ppe_var 3) (ppa_cons (ppe_var 4) ppa_nil)))))
    (ppss_one (pps_parC (i := 2) (j := 3) rfl sc__law_due.nd (ppcs_cons (ppc_lst ppa_nil) (ppcs_cons (ppc_lst ppa_nil) ppcs_nil)))))
    (ppss_one (pps_pickApp 2 3 (ppe_callTy call_int1 cp_int1 (by rfl) Z.z_int (by decide +kernel) (ppa_cons (ppe_cmp (cm_eq (hu64 hr)) (ppe_ixO 4 ppe_int) ppe_str (nomark _)) ppa_nil)) (ppe_ixO 4 ppe_int))))))
    (ppss_one (pps_ret (ppc_val (ppe_add (ppe_var 1) (ppe_lst (ppa_cons (ppe_tup (ppa_cons (ppe_var 2) (ppa_cons (ppe_var 3) (ppa_cons ppe_non ppa_nil)))) ppa_nil))))))))⟩
set_option maxHeartbeats 4000000 in
theorem bd__law_told {k : Nat} {g_stretches : FA} (O_stretches : FnOk P w K mg base CX0 k Z.f_stretches Z.fd_stretches [("cutter" : Str), ("filler" : Str)] (spA K 2 g_stretches)) {g_long_may : FA} (O_long_may : FnOk P w K mg base CX0 k Z.f_long_may Z.fd_long_may [("dune" : Str), ("cutter" : Str), ("filler" : Str)] (spA K 3 g_long_may)) {g_long_many : FA} (O_long_many : FnOk P w K mg base CX0 k Z.f_long_many Z.fd_long_many [("cutter" : Str), ("filler" : Str)] (spA K 2 g_long_many)) {gx_stretches : FX} (OX_stretches : FnOk P w K mg base (L2.CX P w) k Z.f_stretches Z.fd_stretches [("cutter" : Str), ("filler" : Str)] (spX K 2 gx_stretches)) {gx_long_may : FX} (OX_long_may : FnOk P w K mg base (L2.CX P w) k Z.f_long_may Z.fd_long_may [("dune" : Str), ("cutter" : Str), ("filler" : Str)] (spX K 3 gx_long_may)) {gx_long_many : FX} (OX_long_many : FnOk P w K mg base (L2.CX P w) k Z.f_long_many Z.fd_long_many [("cutter" : Str), ("filler" : Str)] (spX K 2 gx_long_many)) : ∀ (cdv : Value) (A : Around) (outer : List Env) (s : Shared) (H : Hp) (E : XK), Room k (A.deeper (envOfC "_law_told" (defScope s__law_told) s.heap.objs.size Z.f__law_told cdv)) → ∃ t, PPSs (cxOf CX0 P w K mg base NN__law_told "_law_told" (defScope s__law_told) Z.f__law_told cdv A outer s H E).nox (defBody s__law_told) t (T__law_told g_stretches g_long_may g_long_many gx_stretches gx_long_may gx_long_many) :=
  fun cdv A outer s H E hr => ⟨_, (ppss_cons (pps_asg (ppe_tup (ppa_cons ppe_non (ppa_cons ppe_non ppa_nil))) (ptg_tup (n := 2) rfl (ptgs_cons (ptg_name (i := 3) sc__law_told.nd) (ptgs_cons (ptg_name (i := 4) sc__law_told.nd) ptgs_nil))))
    (ppss_cons (pps_try (i := 5) (j := 3) (cs := [("Astray" : Str), ("Clash" : Str), ("NoPost" : Str)]) rfl rfl rfl sc__law_told.nd rfl rfl rfl rfl (fun W pn xe tk po => ((pxss_one (pxs_or (pps_set (i := 4) sc__law_told.nd (ppc_ifC (ppt_cmp cm_lt (ppe_var 0) ppe_int (nomark _)) (ppc_callPk O_stretches O_long_many hr (by rfl) Z.m_stretches Z.F_stretches.kp Z.b_stretches (by rfl) Z.m_long_many Z.F_long_many.kp Z.b_long_many (ppe_var 0) (ppa_cons (ppe_var 1) (ppa_cons (ppe_var 2) ppa_nil))) (ppc_callA O_long_may hr (by rfl) Z.m_long_may Z.F_long_may.kp Z.b_long_may (ppa_cons (ppe_tup (ppa_cons ppe_int ppa_nil)) (ppa_cons (ppe_var 1) (ppa_cons (ppe_var 2) ppa_nil))))))
    (pxs_set (i := 4) sc__law_told.nd (pxe_if (ppt_cmp cm_lt (ppe_var 0) ppe_int (nomark _)) (pxe_callPk OX_stretches OX_long_many tk hr (by rfl) Z.m_stretches Z.F_stretches.kp Z.b_stretches (by rfl) Z.m_long_many Z.F_long_many.kp Z.b_long_many (ppe_var 0) (ppa_cons (ppe_var 1) (ppa_cons (ppe_var 2) ppa_nil))) (pxe_call OX_long_may tk hr (by rfl) Z.m_long_may Z.F_long_may.kp Z.b_long_may (ppa_cons (ppe_tup (ppa_cons ppe_int ppa_nil)) (ppa_cons (ppe_var 1) (ppa_cons (ppe_var 2) ppa_nil))))))))).lift)
    (hit3 Z.x_Astray Z.x_Clash Z.x_NoPost (by rfl) (by rfl) (by rfl)))
    (ppss_cons (pps_if (ppt_cmp cm_isN (ppe_var 3) ppe_non (nomark _))
    (ppss_one (pps_ret (ppc_move 4)))
    ppss_nil)
    (ppss_cons (pps_set (i := 6) sc__law_told.nd (ppc_val (ppe_and (ppe_isX (xcs_cons Z.x_Astray (xcs_cons Z.x_Clash (xcs_cons Z.x_NoPost xcs_nil))) (itx_own Z.x_Astray (by rfl)) (by rfl) Z.z_isinstance (ppe_var 3)) (ppe_and (ppe_isX (xcs_cons Z.x_Astray (xcs_cons Z.x_Clash (xcs_cons Z.x_NoPost xcs_nil))) (itx_blt (n := "ValueError") (by rfl) Z.z_ValueError) (by rfl) Z.z_isinstance (ppe_var 3)) (ppe_one (ppe_not (ppe_isX2 (xcs_cons Z.x_Astray (xcs_cons Z.x_Clash (xcs_cons Z.x_NoPost xcs_nil))) (itx_own Z.x_Clash (by rfl)) (itx_own Z.x_NoPost (by rfl)) (by rfl) Z.z_isinstance (ppe_var 3))))))))
    (ppss_one (pps_ret (ppc_val (ppe_ifExp (ppt_val (ppe_var 6)) (ppe_tup (ppa_cons ppe_str (ppa_cons (ppe_xf (xcs_cons Z.x_Astray (xcs_cons Z.x_Clash (xcs_cons Z.x_NoPost xcs_nil))) (ppe_var 3)) ppa_nil))) ppe_str))))))))⟩
set_option maxHeartbeats 4000000 in
theorem bd__law_bent {k : Nat} {g__law_take : FB} (O__law_take : FnOk P w K mg base CX0 k Z.f__law_take Z.fd__law_take [("_law_box_here" : Str), ("_law_size" : Str)] (spB K 2 g__law_take)) {g__law_of : FB} (O__law_of : FnOk P w K mg base CX0 k Z.f__law_of Z.fd__law_of [("_law_box_here" : Str), ("_law_some" : Str)] (spB K 2 g__law_of)) : ∀ (cdv : Value) (A : Around) (outer : List Env) (s : Shared) (H : Hp) (E : XK), Room k (A.deeper (envOfC "_law_bent" (defScope s__law_bent) s.heap.objs.size Z.f__law_bent cdv)) → ∃ t, PPSs (cxOf CX0 P w K mg base NN__law_bent "_law_bent" (defScope s__law_bent) Z.f__law_bent cdv A outer s H E).nox (defBody s__law_bent) t (T__law_bent g__law_take g__law_of) :=
  fun cdv A outer s H E hr => ⟨_, (ppss_cons (pps_setLcV (i := 4) (own := [("_law_k", 2), ("_law_entry", 3)]) rfl sc__law_bent.nd (ppi_e (by rfl) Z.z_enumerate (ppa_cons (ppe_var 1) ppa_nil)) (blkOk_by (N := NN__law_bent) (sc := defScope s__law_bent) (by decide +kernel)) (fun _ _ _ _ _ => ((ptg_tup (n := 2) rfl (ptgs_cons (ptg_name (i := 2) sc__law_bent.nd) (ptgs_cons (ptg_name (i := 3) sc__law_bent.nd) ptgs_nil)))).lift) (fun _ _ _ _ _ => ((ppts_one (ppt_cmp (cm_eq (hu64 hr)) (ppe_ixO 3 ppe_int) ppe_str (nomark _)))).lift) (fun _ _ _ _ _ => ((ppe_var 2)).lift))
    (ppss_cons (pps_set (i := 5) sc__law_bent.nd (ppc_val (ppe_ifExp (ppt_cmp (cm_ne (hu64 hr)) (ppe_var 4) (ppe_lst ppa_nil) (nomark _)) (ppe_frz (ppc_callB 0 O__law_take hr (by rfl) Z.m__law_take Z.F__law_take.kp Z.b__law_take (ppa_cons ppe_int ppa_nil))) ppe_int)))
    (ppss_cons (pps_if (ppt_cmp (cm_eq (hu64 hr)) (ppe_var 5) ppe_int (nomark _))
    (ppss_one (pps_ret (ppc_val (ppe_add (ppe_var 1) (ppe_lst (ppa_cons (ppe_tup (ppa_cons ppe_str (ppa_cons ppe_int (ppa_cons ppe_int ppa_nil)))) ppa_nil))))))
    ppss_nil)
    (ppss_cons (pps_set (i := 6) sc__law_bent.nd (ppc_callB 0 O__law_of hr (by rfl) Z.m__law_of Z.F__law_of.kp Z.b__law_of (ppa_cons (ppe_var 4) ppa_nil)))
    (ppss_cons (pps_asg (ppe_ixO 1 (ppe_var 6)) (ptg_tup (n := 3) rfl (ptgs_cons (ptg_name (i := 7) sc__law_bent.nd) (ptgs_cons (ptg_name (i := 8) sc__law_bent.nd) (ptgs_cons (ptg_name (i := 9) sc__law_bent.nd) ptgs_nil)))))
    (ppss_cons (pps_set (i := 10) sc__law_bent.nd (ppc_val (ppe_ix (ppe_lst (ppa_cons (ppe_lst ppa_nil) (ppa_cons (ppe_lst (ppa_cons (ppe_ixO 1 (ppe_var 6)) (ppa_cons (ppe_ixO 1 (ppe_var 6)) ppa_nil))) (ppa_cons (ppe_lst (ppa_cons (ppe_tup (ppa_cons (ppe_var 7) (ppa_cons (ppe_var 8) (ppa_cons (ppe_add (ppe_var 9) ppe_int) ppa_nil)))) ppa_nil)) ppa_nil)))) (ppe_var 5))))
    (ppss_one (pps_ret (ppc_val (ppe_add (ppe_add (ppe_slice (ppe_var 1) ppo_none (ppo_some (ppe_var 6))) (ppe_var 10)) (ppe_slice (ppe_var 1) (ppo_some (ppe_add (ppe_var 6) ppe_int)) ppo_none)))))))))))⟩
set_option maxHeartbeats 4000000 in
theorem bd__law_right {k : Nat} {g__law_same : FA} (O__law_same : FnOk P w K mg base CX0 k Z.f__law_same Z.fd__law_same [("_law_told_here" : Str), ("_law_due_here" : Str)] (spA K 2 g__law_same)) {g__law_lists : FA} (O__law_lists : FnOk P w K mg base CX0 k Z.f__law_lists Z.fd__law_lists [("_law_thing" : Str)] (spA K 1 g__law_lists)) {g__law_entries : FB} (O__law_entries : FnOk P w K mg base CX0 k Z.f__law_entries Z.fd__law_entries [("_law_box_here" : Str), ("_law_posts" : Str), ("_law_size" : Str)] (spB K 3 g__law_entries)) {g__law_books_of : FA} (O__law_books_of : FnOk P w K mg base CX0 k Z.f__law_books_of Z.fd__law_books_of [("_law_entries_here" : Str)] (spA K 1 g__law_books_of)) {g__law_due : FA} (O__law_due : FnOk P w K mg base CX0 k Z.f__law_due Z.fd__law_due [("_law_entries_here" : Str)] (spA K 1 g__law_due)) {g__law_told : FA} (O__law_told : FnOk P w K mg base CX0 k Z.f__law_told Z.fd__law_told [("_law_way" : Str), ("_law_cutter" : Str), ("_law_filler" : Str)] (spA K 3 g__law_told)) {g__law_bent : FB} (O__law_bent : FnOk P w K mg base CX0 k Z.f__law_bent Z.fd__law_bent [("_law_box_here" : Str), ("_law_book" : Str)] (spB K 2 g__law_bent)) : ∀ (cdv : Value) (A : Around) (outer : List Env) (s : Shared) (H : Hp) (E : XK), Room k (A.deeper (envOfC "_law_right" (defScope s__law_right) s.heap.objs.size Z.f__law_right cdv)) → ∃ t, PPSs (cxOf CX0 P w K mg base NN__law_right "_law_right" (defScope s__law_right) Z.f__law_right cdv A outer s H E).nox (defBody s__law_right) t (T__law_right g__law_same g__law_lists g__law_entries g__law_books_of g__law_due g__law_told g__law_bent) :=
  fun cdv A outer s H E hr => ⟨_, (ppss_cons (pps_set (i := 1) sc__law_right.nd (ppc_callB 0 O__law_entries hr (by rfl) Z.m__law_entries Z.F__law_entries.kp Z.b__law_entries (ppa_cons ppe_int (ppa_cons ppe_int ppa_nil))))
    (ppss_cons (pps_asg (ppe_frz (ppc_callA O__law_books_of hr (by rfl) Z.m__law_books_of Z.F__law_books_of.kp Z.b__law_books_of (ppa_cons (ppe_var 1) ppa_nil))) (ptg_tup (n := 2) rfl (ptgs_cons (ptg_name (i := 2) sc__law_right.nd) (ptgs_cons (ptg_name (i := 3) sc__law_right.nd) ptgs_nil))))
    (ppss_cons (pps_set (i := 4) sc__law_right.nd (ppc_callA O__law_due hr (by rfl) Z.m__law_due Z.F__law_due.kp Z.b__law_due (ppa_cons (ppe_var 1) ppa_nil)))
    (ppss_cons (pps_set (i := 5) sc__law_right.nd (ppc_two (ppbs_cons (ppc_callA O__law_told hr (by rfl) Z.m__law_told Z.F__law_told.kp Z.b__law_told (ppa_cons ppe_int (ppa_cons (ppe_var 2) (ppa_cons (ppe_var 3) ppa_nil)))) (ppbs_cons (ppc_callA O__law_told hr (by rfl) Z.m__law_told Z.F__law_told.kp Z.b__law_told (ppa_cons ppe_int (ppa_cons (ppe_callTy call_tuple_of cp_tup (by rfl) Z.z_tuple (by decide +kernel) (ppa_cons (ppe_frz (ppc_callA O__law_lists hr (by rfl) Z.m__law_lists Z.F__law_lists.kp Z.b__law_lists (ppa_cons (ppe_var 2) ppa_nil))) ppa_nil)) (ppa_cons (ppe_frz (ppc_callA O__law_lists hr (by rfl) Z.m__law_lists Z.F__law_lists.kp Z.b__law_lists (ppa_cons (ppe_var 3) ppa_nil))) ppa_nil)))) ppbs_nil))))
    (ppss_cons (pps_if (ppt_not (ppt_val (ppe_callTw 5 O__law_same hr (by rfl) Z.m__law_same Z.F__law_same.kp Z.b__law_same (ppe_lst (ppa_cons (ppe_var 4) (ppa_cons (ppe_var 4) ppa_nil))))))
    (ppss_one (pps_ret (ppc_val ppe_bl)))
    ppss_nil)
    (ppss_cons (pps_twApp (k1 := 0) (k2 := 0) 5 ppe_int.pe (fun _ _ _ h => h) ppe_int.pe (fun _ _ _ h => h) ppe_int.pe (fun _ _ _ h => h) ppe_int)
    (ppss_cons (pps_twApp (k1 := (-1)) (k2 := 1) 5 ppe_int.pe (fun _ _ _ h => h) (ppe_neg ppe_int).pe (fun _ _ _ h => ⟨1, rfl, h⟩) ppe_int.pe (fun _ _ _ h => h) ppe_int)
    (ppss_cons (pps_if (ppt_not (ppt_val (ppe_callTw2 5 O__law_same hr (by rfl) Z.m__law_same Z.F__law_same.kp Z.b__law_same ppe_int.pe (fun _ _ _ h => h) (ppc_callA O__law_told hr (by rfl) Z.m__law_told Z.F__law_told.kp Z.b__law_told (ppa_cons ppe_int (ppa_cons (ppe_var 2) (ppa_cons (ppe_var 3) ppa_nil)))) (ppe_lst (ppa_cons (ppe_var 4) (ppa_cons (ppe_var 4) ppa_nil))))))
    (ppss_one (pps_ret (ppc_val ppe_bl)))
    ppss_nil)
    (ppss_cons (pps_for PassesOwn.never rfl (ppi_range1 (by rfl) Z.z_range (ppa_cons ppe_int ppa_nil)) (ptg_name (i := 6) sc__law_right.nd)
    (ppss_cons (pps_set (i := 7) sc__law_right.nd (ppc_callB 0 O__law_bent hr (by rfl) Z.m__law_bent Z.F__law_bent.kp Z.b__law_bent (ppa_cons (ppe_ix (ppe_lst (ppa_cons (ppe_var 2) (ppa_cons (ppe_var 3) ppa_nil))) (ppe_mod (ppe_var 6) ppe_int)) ppa_nil)))
    (ppss_cons (pps_set (i := 8) sc__law_right.nd (ppc_val (ppe_ix (ppe_lst (ppa_cons (ppe_tup (ppa_cons (ppe_var 7) (ppa_cons (ppe_var 3) ppa_nil))) (ppa_cons (ppe_tup (ppa_cons (ppe_var 2) (ppa_cons (ppe_var 7) ppa_nil))) ppa_nil))) (ppe_mod (ppe_var 6) ppe_int))))
    (ppss_cons (pps_set (i := 11) sc__law_right.nd (ppc_val (ppe_lcL (own := [("_law_book", 9)]) rfl sc__law_right.nd (ppi_seq (ppe_var 8)) (blkOk_by (N := NN__law_right) (sc := defScope s__law_right) (by decide +kernel)) (fun _ _ _ _ _ => ((ptg_name (i := 9) sc__law_right.nd)).lift) (fun _ _ _ _ _ => (ppts_nil).lift) (fun _ _ _ _ _ => ((ppe_lcL (own := [("_law_entry", 10)]) rfl sc__law_right.nd (ppi_seq (ppe_var 9)) (by refine blkOk_by ?_; first | rfl | with_unfolding_all rfl) (fun _ _ _ _ _ => ((ptg_name (i := 10) sc__law_right.nd)).lift) (fun _ _ _ _ _ => ((ppts_one (ppt_cmp (cm_eq (hu64 hr)) (ppe_ixO 10 ppe_int) ppe_str (nomark _)))).lift) (fun _ _ _ _ _ => ((ppe_var 10)).lift))).lift))))
    (ppss_cons (pps_set (i := 12) sc__law_right.nd (ppc_val (ppe_callB (call_max2 rfl) cp_max2 (by rfl) Z.z_max (by decide +kernel) (ppa_cons (ppe_callB cr_lenA cp_len (by rfl) Z.z_len (by decide +kernel) (ppa_cons (ppe_ixO 11 ppe_int) ppa_nil)) (ppa_cons (ppe_callB cr_lenA cp_len (by rfl) Z.z_len (by decide +kernel) (ppa_cons (ppe_ixO 11 ppe_int) ppa_nil)) ppa_nil)))))
    (ppss_cons (pps_setLcV (i := 14) (own := [("_law_k", 13)]) rfl sc__law_right.nd (ppi_range1 (by rfl) Z.z_range (ppa_cons (ppe_var 12) ppa_nil)) (blkOk_by (N := NN__law_right) (sc := defScope s__law_right) (by decide +kernel)) (fun _ _ _ _ _ => ((ptg_name (i := 13) sc__law_right.nd)).lift) (fun _ _ _ _ _ => ((ppts_one (ppt_cmp (cm_ne (hu64 hr)) (ppe_slice (ppe_ixO 11 ppe_int) (ppo_some (ppe_var 13)) (ppo_some (ppe_add (ppe_var 13) ppe_int))) (ppe_slice (ppe_ixO 11 ppe_int) (ppo_some (ppe_var 13)) (ppo_some (ppe_add (ppe_var 13) ppe_int))) (nomark _)))).lift) (fun _ _ _ _ _ => ((ppe_var 13)).lift))
    (ppss_cons (pps_set (i := 15) sc__law_right.nd (ppc_val (ppe_ifExp (ppt_cmp (cm_ne (hu64 hr)) (ppe_var 14) (ppe_lst ppa_nil) (nomark _)) (ppe_tup (ppa_cons ppe_str (ppa_cons (ppe_ixO 14 ppe_int) ppa_nil))) ppe_non)))
    (ppss_cons (pps_setLcV (i := 17) (own := [("_law_way", 16)]) rfl sc__law_right.nd (ppi_range1 (by rfl) Z.z_range (ppa_cons ppe_int ppa_nil)) (blkOk_by (N := NN__law_right) (sc := defScope s__law_right) (by decide +kernel)) (fun _ _ _ _ _ => ((ptg_name (i := 16) sc__law_right.nd)).lift) (fun _ _ _ _ _ => (ppts_nil).lift) (fun _ _ _ _ _ => ((ppe_frz (ppc_callA O__law_told hr (by rfl) Z.m__law_told Z.F__law_told.kp Z.b__law_told (ppa_cons (ppe_var 16) (ppa_cons (ppe_ixO 8 ppe_int) (ppa_cons (ppe_ixO 8 ppe_int) ppa_nil)))))).lift))
    (ppss_one (pps_if (PPW.ppt (ppw_and (ppt_cmp cm_notN (ppe_var 15) ppe_non (nomark _)) (ppw_and1 (ppt_not (ppt_val (ppe_frz (ppc_callA O__law_same hr (by rfl) Z.m__law_same Z.F__law_same.kp Z.b__law_same (ppa_cons (ppe_var 17) (ppa_cons (ppe_rep (ppe_lst (ppa_cons (ppe_var 15) ppa_nil)) ppe_int) ppa_nil)))))))))
    (ppss_one (pps_ret (ppc_val ppe_bl)))
    ppss_nil))))))))))
    (ppss_one (pps_ret (ppc_val ppe_bl))))))))))))⟩
set_option maxHeartbeats 4000000 in
theorem bd_law {k : Nat} {g__law_box : FA} (O__law_box : FnOk P w K mg base CX0 k Z.f__law_box Z.fd__law_box [("_law_script" : Str), ("_law_k" : Str)] (spA K 2 g__law_box)) {g__law_right : FB} (O__law_right : FnOk P w K mg base CX0 k Z.f__law_right Z.fd__law_right [("_law_box_here" : Str)] (spB K 1 g__law_right)) : ∀ (cdv : Value) (A : Around) (outer : List Env) (s : Shared) (H : Hp) (E : XK), Room k (A.deeper (envOfC "law" (defScope s_law) s.heap.objs.size Z.f_law cdv)) → ∃ t, PPSs (cxOf CX0 P w K mg base NN_law "law" (defScope s_law) Z.f_law cdv A outer s H E).nox (defBody s_law) t (T_law g__law_box g__law_right) :=
  fun cdv A outer s H E hr => ⟨_, (ppss_one (pps_ret (ppc_val (ppe_callB (cr_all rfl) cp_all (by rfl) Z.z_all (by decide +kernel) (ppa_cons (ppe_lcL (own := [("_law_k", 1)]) rfl sc_law.nd (ppi_range1 (by rfl) Z.z_range (ppa_cons (ppe_add ppe_int (ppe_callB (call_min2 rfl) cp_min2 (by rfl) Z.z_min (by decide +kernel) (ppa_cons ppe_int (ppa_cons (ppe_lenO 0 (by rfl) Z.z_len) ppa_nil)))) ppa_nil)) (blkOk_by (N := NN_law) (sc := defScope s_law) (by decide +kernel)) (fun _ _ _ _ _ => ((ptg_name (i := 1) sc_law.nd)).lift) (fun _ _ _ _ _ => (ppts_nil).lift) (fun _ _ _ _ _ => ((ppe_frz (ppc_callX O__law_right hr (by rfl) Z.m__law_right Z.F__law_right.kp Z.b__law_right (ppc_callA O__law_box hr (by rfl) Z.m__law_box Z.F__law_box.kp Z.b__law_box (ppa_cons (ppe_var 0) (ppa_cons (ppe_var 1) ppa_nil))) ppa_nil))).lift)) ppa_nil)))))⟩
set_option maxHeartbeats 4000000 in
theorem bdx_stretches {k : Nat} {g_slopes_between : FA} (O_slopes_between : FnOk P w K mg base CX0 k Z.f_slopes_between Z.fd_slopes_between [("book" : Str)] (spA K 1 g_slopes_between)) {g_same_hands : FA} (O_same_hands : FnOk P w K mg base CX0 k Z.f_same_hands Z.fd_same_hands [("cutter" : Str), ("filler" : Str)] (spA K 2 g_same_hands)) {gx_same_hands : FX} (OX_same_hands : FnOk P w K mg base (L2.CX P w) k Z.f_same_hands Z.fd_same_hands [("cutter" : Str), ("filler" : Str)] (spX K 2 gx_same_hands)) : ∀ (cdv : Value) (A : Around) (outer : List Env) (s : Shared) (H : Hp) (E : XK), Room (k + 1) (A.deeper (envOfC "stretches" (defScope s_stretches) s.heap.objs.size Z.f_stretches cdv)) → ∃ t, PXSs (cxOf (L2.CX P w) P w K mg base NN_stretches "stretches" (defScope s_stretches) Z.f_stretches cdv A outer s H E) (fun cls d _ H => E cls d H) (defBody s_stretches) t (TX_stretches g_slopes_between g_same_hands gx_same_hands) :=
  fun cdv A outer s H E hr => ⟨_, (pxss_cons (pxs_or (pps_set (i := 2) sc_stretches.nd (ppc_callA O_same_hands (hr.mono (Nat.le_succ _)) (by rfl) Z.m_same_hands Z.F_same_hands.kp Z.b_same_hands (ppa_cons (ppe_var 0) (ppa_cons (ppe_var 1) ppa_nil))))
    (pxs_set (i := 2) sc_stretches.nd (pxe_call OX_same_hands (takes_of rfl rfl rfl rfl) (hr.mono (Nat.le_succ _)) (by rfl) Z.m_same_hands Z.F_same_hands.kp Z.b_same_hands (ppa_cons (ppe_var 0) (ppa_cons (ppe_var 1) ppa_nil)))))
    (pxss_one (pxs_ok (pps_ret (ppc_zipSt rfl (by rfl) Z.z_list (by rfl) Z.z_zip (ppbs_cons (ppc_callA O_slopes_between (hr.mono (Nat.le_succ _)) (by rfl) Z.m_slopes_between Z.F_slopes_between.kp Z.b_slopes_between (ppa_cons (ppe_var 0) ppa_nil)) (ppbs_cons (ppc_callA O_slopes_between (hr.mono (Nat.le_succ _)) (by rfl) Z.m_slopes_between Z.F_slopes_between.kp Z.b_slopes_between (ppa_cons (ppe_var 1) ppa_nil)) (ppbs_cons (ppc_val (ppe_lst (ppa_star (ppe_var 2) (ppa_cons ppe_non ppa_nil)))) ppbs_nil))))))))⟩
set_option maxHeartbeats 4000000 in
theorem bdx_long_may {k : Nat} {g_done : FA} (O_done : FnOk P w K mg base CX0 k Z.f_done Z.fd_done [("dune" : Str), ("entries" : Str)] (spA K 2 g_done)) {g_stretches : FA} (O_stretches : FnOk P w K mg base CX0 k Z.f_stretches Z.fd_stretches [("cutter" : Str), ("filler" : Str)] (spA K 2 g_stretches)) {g_all_of_one_first : FA} (O_all_of_one_first : FnOk P w K mg base CX0 k Z.f_all_of_one_first Z.fd_all_of_one_first [("parts" : Str), ("word" : Str)] (spA K 2 g_all_of_one_first)) {gx_done : FX} (OX_done : FnOk P w K mg base (L2.CX P w) k Z.f_done Z.fd_done [("dune" : Str), ("entries" : Str)] (spX K 2 gx_done)) {gx_stretches : FX} (OX_stretches : FnOk P w K mg base (L2.CX P w) k Z.f_stretches Z.fd_stretches [("cutter" : Str), ("filler" : Str)] (spX K 2 gx_stretches)) : ∀ (cdv : Value) (A : Around) (outer : List Env) (s : Shared) (H : Hp) (E : XK), Room (k + 1) (A.deeper (envOfC "long_may" (defScope s_long_may) s.heap.objs.size Z.f_long_may cdv)) → ∃ t, PXSs (cxOf (L2.CX P w) P w K mg base NN_long_may "long_may" (defScope s_long_may) Z.f_long_may cdv A outer s H E) (fun cls d _ H => E cls d H) (defBody s_long_may) t (TX_long_may g_done g_stretches g_all_of_one_first gx_done gx_stretches) :=
  fun cdv A outer s H E hr => ⟨_, (pxss_cons (pxs_or (pps_set (i := 3) sc_long_may.nd (ppc_val (ppe_stFrz (ppc_callA O_stretches (hr.mono (Nat.le_succ _)) (by rfl) Z.m_stretches Z.F_stretches.kp Z.b_stretches (ppa_cons (ppe_var 1) (ppa_cons (ppe_var 2) ppa_nil))))))
    (pxs_set (i := 3) sc_long_may.nd (pxe_call OX_stretches (takes_of rfl rfl rfl rfl) (hr.mono (Nat.le_succ _)) (by rfl) Z.m_stretches Z.F_stretches.kp Z.b_stretches (ppa_cons (ppe_var 1) (ppa_cons (ppe_var 2) ppa_nil)))))
    (pxss_one (pxs_or (pps_ret (ppc_val (ppe_tup (ppa_cons (ppe_frz (ppc_callA O_done (hr.mono (Nat.le_succ _)) (by rfl) Z.m_done Z.F_done.kp Z.b_done (ppa_cons (ppe_var 0) (ppa_cons (ppe_frz (ppc_callA O_all_of_one_first (hr.mono (Nat.le_succ _)) (by rfl) Z.m_all_of_one_first Z.F_all_of_one_first.kp Z.b_all_of_one_first (ppa_cons (ppe_var 3) (ppa_cons ppe_str ppa_nil)))) ppa_nil)))) (ppa_cons (ppe_frz (ppc_callA O_done (hr.mono (Nat.le_succ _)) (by rfl) Z.m_done Z.F_done.kp Z.b_done (ppa_cons (ppe_var 0) (ppa_cons (ppe_frz (ppc_callA O_all_of_one_first (hr.mono (Nat.le_succ _)) (by rfl) Z.m_all_of_one_first Z.F_all_of_one_first.kp Z.b_all_of_one_first (ppa_cons (ppe_var 3) (ppa_cons ppe_str ppa_nil)))) ppa_nil)))) ppa_nil)))))
    (pxs_ret (pxe_tup (pxa_here (pxe_call OX_done (takes_of rfl rfl rfl rfl) (hr.mono (Nat.le_succ _)) (by rfl) Z.m_done Z.F_done.kp Z.b_done (ppa_cons (ppe_var 0) (ppa_cons (ppe_frz (ppc_callA O_all_of_one_first (hr.mono (Nat.le_succ _)) (by rfl) Z.m_all_of_one_first Z.F_all_of_one_first.kp Z.b_all_of_one_first (ppa_cons (ppe_var 3) (ppa_cons ppe_str ppa_nil)))) ppa_nil))) (ppa_cons (ppe_frz (ppc_callA O_done (hr.mono (Nat.le_succ _)) (by rfl) Z.m_done Z.F_done.kp Z.b_done (ppa_cons (ppe_var 0) (ppa_cons (ppe_frz (ppc_callA O_all_of_one_first (hr.mono (Nat.le_succ _)) (by rfl) Z.m_all_of_one_first Z.F_all_of_one_first.kp Z.b_all_of_one_first (ppa_cons (ppe_var 3) (ppa_cons ppe_str ppa_nil)))) ppa_nil)))) ppa_nil)))))))⟩
set_option maxHeartbeats 4000000 in
theorem bdx_long_many {k : Nat} {g_orders_many : FA} (O_orders_many : FnOk P w K mg base CX0 k Z.f_orders_many Z.fd_orders_many [("cuts" : Str), ("fills" : Str), ("words" : Str)] (spA K 3 g_orders_many)) {g_stretches : FA} (O_stretches : FnOk P w K mg base CX0 k Z.f_stretches Z.fd_stretches [("cutter" : Str), ("filler" : Str)] (spA K 2 g_stretches)) {gx_stretches : FX} (OX_stretches : FnOk P w K mg base (L2.CX P w) k Z.f_stretches Z.fd_stretches [("cutter" : Str), ("filler" : Str)] (spX K 2 gx_stretches)) : ∀ (cdv : Value) (A : Around) (outer : List Env) (s : Shared) (H : Hp) (E : XK), Room (k + 1) (A.deeper (envOfC "long_many" (defScope s_long_many) s.heap.objs.size Z.f_long_many cdv)) → ∃ t, PXSs (cxOf (L2.CX P w) P w K mg base NN_long_many "long_many" (defScope s_long_many) Z.f_long_many cdv A outer s H E) (fun cls d _ H => E cls d H) (defBody s_long_many) t (TX_long_many g_orders_many g_stretches gx_stretches) :=
  fun cdv A outer s H E hr => ⟨_, (pxss_cons (pxs_ok (pps_set (i := 2) sc_long_many.nd (ppc_val ppe_int)))
    (pxss_cons (pxs_or (pps_for (passes_of rfl) rfl (ppi_seq (ppe_stFrz (ppc_callA O_stretches (hr.mono (Nat.le_succ _)) (by rfl) Z.m_stretches Z.F_stretches.kp Z.b_stretches (ppa_cons (ppe_var 0) (ppa_cons (ppe_var 1) ppa_nil))))) (ptg_tup (n := 3) rfl (ptgs_cons (ptg_name (i := 3) sc_long_many.nd) (ptgs_cons (ptg_name (i := 4) sc_long_many.nd) (ptgs_cons (ptg_name (i := 5) sc_long_many.nd) ptgs_nil))))
    (ppss_one (pps_augMul (i := 2) sc_long_many.nd (ppe_frz (ppc_callA O_orders_many (hr.mono (Nat.le_succ _)) (by rfl) Z.m_orders_many Z.F_orders_many.kp Z.b_orders_many (ppa_cons (ppe_var 3) (ppa_cons (ppe_var 4) (ppa_cons (ppe_lst ppa_nil) ppa_nil))))))))
    (pxs_forX (passes_of rfl) rfl (pxi_seq (pxe_call OX_stretches (takes_of rfl rfl rfl rfl) (hr.mono (Nat.le_succ _)) (by rfl) Z.m_stretches Z.F_stretches.kp Z.b_stretches (ppa_cons (ppe_var 0) (ppa_cons (ppe_var 1) ppa_nil)))) (ptg_tup (n := 3) rfl (ptgs_cons (ptg_name (i := 3) sc_long_many.nd) (ptgs_cons (ptg_name (i := 4) sc_long_many.nd) (ptgs_cons (ptg_name (i := 5) sc_long_many.nd) ptgs_nil))))
    (ppss_one (pps_augMul (i := 2) sc_long_many.nd (ppe_frz (ppc_callA O_orders_many (hr.mono (Nat.le_succ _)) (by rfl) Z.m_orders_many Z.F_orders_many.kp Z.b_orders_many (ppa_cons (ppe_var 3) (ppa_cons (ppe_var 4) (ppa_cons (ppe_lst ppa_nil) ppa_nil)))))))))
    (pxss_one (pxs_ok (pps_ret (ppc_move 2))))))⟩
set_option maxHeartbeats 4000000 in
theorem bdx_same_hands {k : Nat} {g_entries_with : FA} (O_entries_with : FnOk P w K mg base CX0 k Z.f_entries_with Z.fd_entries_with [("entries" : Str), ("words" : Str)] (spA K 2 g_entries_with)) {ok_Astray : D → Prop} (OI_Astray : FnOk P w K mg base CX0 k Z.fI_Astray Z.fdI_Astray ["self", "number"] (spI K "Astray" Z.C_Astray ok_Astray)) : ∀ (cdv : Value) (A : Around) (outer : List Env) (s : Shared) (H : Hp) (E : XK), Room (k + 1) (A.deeper (envOfC "same_hands" (defScope s_same_hands) s.heap.objs.size Z.f_same_hands cdv)) → ∃ t, PXSs (cxOf (L2.CX P w) P w K mg base NN_same_hands "same_hands" (defScope s_same_hands) Z.f_same_hands cdv A outer s H E) (fun cls d _ H => E cls d H) (defBody s_same_hands) t (TX_same_hands g_entries_with ok_Astray) :=
  fun cdv A outer s H E hr => ⟨_, (pxss_cons (pxs_ok (pps_set (i := 2) sc_same_hands.nd (ppc_callA O_entries_with (hr.mono (Nat.le_succ _)) (by rfl) Z.m_entries_with Z.F_entries_with.kp Z.b_entries_with (ppa_cons (ppe_var 0) (ppa_cons (ppe_tup (ppa_cons ppe_str ppa_nil)) ppa_nil)))))
    (pxss_cons (pxs_ok (pps_set (i := 3) sc_same_hands.nd (ppc_callA O_entries_with (hr.mono (Nat.le_succ _)) (by rfl) Z.m_entries_with Z.F_entries_with.kp Z.b_entries_with (ppa_cons (ppe_var 1) (ppa_cons (ppe_tup (ppa_cons ppe_str ppa_nil)) ppa_nil)))))
    (pxss_cons (pxs_for (passes_of rfl) rfl (ppi_range1 (by rfl) Z.z_range (ppa_cons (ppe_callB (call_max2 rfl) cp_max2 (by rfl) Z.z_max (by decide +kernel) (ppa_cons (ppe_lenO 2 (by rfl) Z.z_len) (ppa_cons (ppe_lenO 3 (by rfl) Z.z_len) ppa_nil))) ppa_nil)) (ptg_name (i := 4) sc_same_hands.nd)
    (pxss_one (pxs_if (ppt_cmp (cm_ne (hu64 (hr.mono (Nat.le_succ _)))) (ppe_slice (ppe_var 2) (ppo_some (ppe_var 4)) (ppo_some (ppe_add (ppe_var 4) ppe_int))) (ppe_slice (ppe_var 3) (ppo_some (ppe_var 4)) (ppo_some (ppe_add (ppe_var 4) ppe_int))) (nomark _))
    (pxss_one (pxs_raise rfl (takes_of rfl rfl rfl rfl) (XB.over (xb "Astray")) Z.x_Astray.own Z.x_Astray.ns Z.iC_Astray Z.tI_Astray OI_Astray hr Z.bI_Astray (by rfl) Z.x_Astray.gm (ppa_cons (ppe_var 4) ppa_nil)))
    pxss_nil)))
    (pxss_one (pxs_ok (pps_ret (ppc_move 2)))))))⟩
set_option maxHeartbeats 4000000 in
theorem bdx_done {k : Nat} {g_handed : FA} (O_handed : FnOk P w K mg base CX0 k Z.f_handed Z.fd_handed [("dune" : Str), ("post" : Str), ("by" : Str)] (spA K 3 g_handed)) {g_blown : FA} (O_blown : FnOk P w K mg base CX0 k Z.f_blown Z.fd_blown [("dune" : Str), ("wind" : Str)] (spA K 2 g_blown)) {g_is_hand : FA} (O_is_hand : FnOk P w K mg base CX0 k Z.f_is_hand Z.fd_is_hand [("entry" : Str)] (spA K 1 g_is_hand)) {gx_handed : FX} (OX_handed : FnOk P w K mg base (L2.CX P w) k Z.f_handed Z.fd_handed [("dune" : Str), ("post" : Str), ("by" : Str)] (spX K 3 gx_handed)) : ∀ (cdv : Value) (A : Around) (outer : List Env) (s : Shared) (H : Hp) (E : XK), Room (k + 1) (A.deeper (envOfC "done" (defScope s_done) s.heap.objs.size Z.f_done cdv)) → ∃ t, PXSs (cxOf (L2.CX P w) P w K mg base NN_done "done" (defScope s_done) Z.f_done cdv A outer s H E) (fun cls d _ H => E cls d H) (defBody s_done) t (TX_done g_handed g_blown g_is_hand gx_handed) :=
  fun cdv A outer s H E hr => ⟨_, (pxss_cons (pxs_ok (pps_set (i := 2) sc_done.nd (ppc_val (ppe_callTy call_tuple_of cp_tup (by rfl) Z.z_tuple (by decide +kernel) (ppa_cons (ppe_var 0) ppa_nil)))))
    (pxss_cons (pxs_for (passes_of rfl) rfl (ppi_seq (ppe_var 1)) (ptg_name (i := 3) sc_done.nd)
    (pxss_one (pxs_or (pps_set (i := 2) sc_done.nd (ppc_val (ppe_ifExp (ppt_val (ppe_frz (ppc_callA O_is_hand (hr.mono (Nat.le_succ _)) (by rfl) Z.m_is_hand Z.F_is_hand.kp Z.b_is_hand (ppa_cons (ppe_var 3) ppa_nil)))) (ppe_frz (ppc_callA O_handed (hr.mono (Nat.le_succ _)) (by rfl) Z.m_handed Z.F_handed.kp Z.b_handed (ppa_cons (ppe_var 2) (ppa_cons (ppe_ixO 3 ppe_int) (ppa_cons (ppe_ixO 3 ppe_int) ppa_nil))))) (ppe_frz (ppc_callA O_blown (hr.mono (Nat.le_succ _)) (by rfl) Z.m_blown Z.F_blown.kp Z.b_blown (ppa_cons (ppe_var 2) (ppa_cons (ppe_var 3) ppa_nil)))))))
    (pxs_set (i := 2) sc_done.nd (pxe_if1 (ppt_val (ppe_frz (ppc_callA O_is_hand (hr.mono (Nat.le_succ _)) (by rfl) Z.m_is_hand Z.F_is_hand.kp Z.b_is_hand (ppa_cons (ppe_var 3) ppa_nil)))) (pxe_call OX_handed (takes_of rfl rfl rfl rfl) (hr.mono (Nat.le_succ _)) (by rfl) Z.m_handed Z.F_handed.kp Z.b_handed (ppa_cons (ppe_var 2) (ppa_cons (ppe_ixO 3 ppe_int) (ppa_cons (ppe_ixO 3 ppe_int) ppa_nil)))) (ppe_frz (ppc_callA O_blown (hr.mono (Nat.le_succ _)) (by rfl) Z.m_blown Z.F_blown.kp Z.b_blown (ppa_cons (ppe_var 2) (ppa_cons (ppe_var 3) ppa_nil)))))))))
    (pxss_one (pxs_ok (pps_ret (ppc_move 2))))))⟩
set_option maxHeartbeats 4000000 in
theorem bdx_handed {k : Nat} {ok_NoPost : D → Prop} (OI_NoPost : FnOk P w K mg base CX0 k Z.fI_NoPost Z.fdI_NoPost ["self", "post"] (spI K "NoPost" Z.C_NoPost ok_NoPost)) : ∀ (cdv : Value) (A : Around) (outer : List Env) (s : Shared) (H : Hp) (E : XK), Room (k + 1) (A.deeper (envOfC "handed" (defScope s_handed) s.heap.objs.size Z.f_handed cdv)) → ∃ t, PXSs (cxOf (L2.CX P w) P w K mg base NN_handed "handed" (defScope s_handed) Z.f_handed cdv A outer s H E) (fun cls d _ H => E cls d H) (defBody s_handed) t (TX_handed ok_NoPost) :=
  fun cdv A outer s H E hr => ⟨_, (pxss_cons (pxs_if (ppt_not (ppt_chain cm_le cm_lt ppe_int (ppe_var 1) (ppe_lenO 0 (by rfl) Z.z_len)))
    (pxss_one (pxs_raise rfl (takes_of rfl rfl rfl rfl) (XB.over (xb "NoPost")) Z.x_NoPost.own Z.x_NoPost.ns Z.iC_NoPost Z.tI_NoPost OI_NoPost hr Z.bI_NoPost (by rfl) Z.x_NoPost.gm (ppa_cons (ppe_var 1) ppa_nil)))
    pxss_nil)
    (pxss_one (pxs_ok (pps_ret (ppc_val (ppe_callTy call_tuple_of cp_tup (by rfl) Z.z_tuple (by decide +kernel) (ppa_cons (ppe_lcL (own := [("at", 3), ("height", 4)]) rfl sc_handed.nd (ppi_e (by rfl) Z.z_enumerate (ppa_cons (ppe_var 0) ppa_nil)) (blkOk_by (N := NN_handed) (sc := defScope s_handed) (by decide +kernel)) (fun _ _ _ _ _ => ((ptg_tup (n := 2) rfl (ptgs_cons (ptg_name (i := 3) sc_handed.nd) (ptgs_cons (ptg_name (i := 4) sc_handed.nd) ptgs_nil)))).lift) (fun _ _ _ _ _ => (ppts_nil).lift) (fun _ _ _ _ _ => ((ppe_ifExp (ppt_cmp (cm_eq (hu64 (hr.mono (Nat.le_succ _)))) (ppe_var 3) (ppe_var 1) (nomark _)) (ppe_add (ppe_var 4) (ppe_var 2)) (ppe_var 4))).lift)) ppa_nil)))))))⟩
theorem bdI_Astray {k : Nat} {ok : D → Prop} : FnOk P w K mg base CX0 (k + 1) Z.fI_Astray Z.fdI_Astray ["self", "number"] (spI K "Astray" Z.C_Astray ok) :=
  ok_init (m := "this hand is not the same in both books") Z.FI_Astray ⟨rfl, rfl, rfl, by decide +kernel, rfl, by decide +kernel, by decide +kernel⟩ Z.x_Astray fun cdv A outer s H E hr => ⟨_, rdi_var, pss_cons (ps_expr (pe_oyinit (B := (xb "Astray").nm) (XB.over (xb "Astray")) (by rfl) Z.z_ValueError Z.vI_Astray (pa_cons (pe_var (i := 0) rfl (.inl rfl) (by decide) (by decide)) (pa_cons pe_str pa_nil)))) (pss_one (ps_oyst (XB.over (xb "Astray")) (pe_var (i := 0) rfl (.inl rfl) (by decide) (by decide)) (pe_var (i := 1) rfl (.inl rfl) (by decide) (by decide))))⟩
theorem bdI_NoPost {k : Nat} {ok : D → Prop} : FnOk P w K mg base CX0 (k + 1) Z.fI_NoPost Z.fdI_NoPost ["self", "post"] (spI K "NoPost" Z.C_NoPost ok) :=
  ok_init (m := "there is no such post") Z.FI_NoPost ⟨rfl, rfl, rfl, by decide +kernel, rfl, by decide +kernel, by decide +kernel⟩ Z.x_NoPost fun cdv A outer s H E hr => ⟨_, rdi_var, pss_cons (ps_expr (pe_oyinit (B := (xb "NoPost").nm) (XB.over (xb "NoPost")) (by rfl) Z.z_LookupError Z.vI_NoPost (pa_cons (pe_var (i := 0) rfl (.inl rfl) (by decide) (by decide)) (pa_cons pe_str pa_nil)))) (pss_one (ps_oyst (XB.over (xb "NoPost")) (pe_var (i := 0) rfl (.inl rfl) (by decide) (by decide)) (pe_var (i := 1) rfl (.inl rfl) (by decide) (by decide))))⟩
end
section
variable {P : Program} {w : World} {K : PySem.W.Frag} {mg : Str → Option Value} {base : Heap} (Z : Tx K mg)
include Z
theorem ok_mirrored : FnOk P w K mg base CX0 1 Z.f_mirrored Z.fd_mirrored ["dune"] (spA K 1 g_mirrored) := okA Z.F_mirrored sc_mirrored (bd_mirrored Z (k := 0) ) rd_mirrored
theorem ok_upside : FnOk P w K mg base CX0 1 Z.f_upside Z.fd_upside ["dune"] (spA K 1 g_upside) := okA Z.F_upside sc_upside (bd_upside Z (k := 0) ) rd_upside
theorem ok_handed : FnOk P w K mg base CX0 1 Z.f_handed Z.fd_handed ["dune", "post", "by"] (spA K 3 g_handed) := okA Z.F_handed sc_handed (bd_handed Z (k := 0) ) rd_handed
theorem ok_almanac_of : FnOk P w K mg base CX0 1 Z.f_almanac_of Z.fd_almanac_of ["cuts", "fills", "order"] (spA K 3 g_almanac_of) := okA Z.F_almanac_of sc_almanac_of (bd_almanac_of Z (k := 0) ) rd_almanac_of
theorem ok_are_contrary : FnOk P w K mg base CX0 1 Z.f_are_contrary Z.fd_are_contrary ["one", "other"] (spA K 2 g_are_contrary) := okA Z.F_are_contrary sc_are_contrary (bd_are_contrary Z (k := 0) ) rd_are_contrary
theorem ok_first_clash : FnOk P w K mg base CX0 2 Z.f_first_clash Z.fd_first_clash ["words"] (spA K 1 g_first_clash) := okA Z.F_first_clash sc_first_clash (bd_first_clash Z (k := 1) ((ok_are_contrary Z).mono (by decide))) rd_first_clash
theorem ok_refuse_clash : FnOk P w K mg base CX0 3 Z.f_refuse_clash Z.fd_refuse_clash ["words"] (spA K 1 g_refuse_clash) := okA Z.F_refuse_clash sc_refuse_clash (bd_refuse_clash Z (k := 2) ((ok_first_clash Z).mono (by decide))) rd_refuse_clash
theorem ok_least_ahead : FnOk P w K mg base CX0 1 Z.f_least_ahead Z.fd_least_ahead ["words", "fill"] (spA K 2 g_least_ahead) := okA Z.F_least_ahead sc_least_ahead (bd_least_ahead Z (k := 0) ) rd_least_ahead
theorem ok_most_ahead : FnOk P w K mg base CX0 1 Z.f_most_ahead Z.fd_most_ahead ["cuts", "words", "fill"] (spA K 3 g_most_ahead) := okA Z.F_most_ahead sc_most_ahead (bd_most_ahead Z (k := 0) ) rd_most_ahead
theorem ok_bounds : FnOk P w K mg base CX0 4 Z.f_bounds Z.fd_bounds ["cuts", "fills", "words"] (spA K 3 g_bounds) := okA Z.F_bounds sc_bounds (bd_bounds Z (k := 3) ((ok_refuse_clash Z).mono (by decide)) ((ok_least_ahead Z).mono (by decide)) ((ok_most_ahead Z).mono (by decide))) rd_bounds
theorem ok_ways_ahead : FnOk P w K mg base CX0 1 Z.f_ways_ahead Z.fd_ways_ahead ["later", "least", "most"] (spA K 3 g_ways_ahead) := okA Z.F_ways_ahead sc_ways_ahead (bd_ways_ahead Z (k := 0) ) rd_ways_ahead
theorem ok_ways_on : FnOk P w K mg base CX0 5 Z.f_ways_on Z.fd_ways_on ["cuts", "fills", "words"] (spA K 3 g_ways_on) := okA Z.F_ways_on sc_ways_on (bd_ways_on Z (k := 4) ((ok_bounds Z).mono (by decide)) ((ok_ways_ahead Z).mono (by decide))) rd_ways_on
theorem ok_orders_many : FnOk P w K mg base CX0 6 Z.f_orders_many Z.fd_orders_many ["cuts", "fills", "words"] (spA K 3 g_orders_many) := okA Z.F_orders_many sc_orders_many (bd_orders_many Z (k := 5) ((ok_ways_on Z).mono (by decide))) rd_orders_many
theorem ok_cut_onward : FnOk P w K mg base CX0 1 Z.f_cut_onward Z.fd_cut_onward ["dune", "slope"] (spA K 2 g_cut_onward) := okA Z.F_cut_onward sc_cut_onward (bd_cut_onward Z (k := 0) ) rd_cut_onward
theorem ok_cut_to : FnOk P w K mg base CX0 2 Z.f_cut_to Z.fd_cut_to ["dune", "slope"] (spA K 2 g_cut_to) := okA Z.F_cut_to sc_cut_to (bd_cut_to Z (k := 1) ((ok_mirrored Z).mono (by decide)) ((ok_cut_onward Z).mono (by decide))) rd_cut_to
theorem ok_blown : FnOk P w K mg base CX0 3 Z.f_blown Z.fd_blown ["dune", "wind"] (spA K 2 g_blownW) := okA Z.F_blown sc_blown (bd_blown Z (k := 2) ((ok_upside Z).mono (by decide)) ((ok_cut_to Z).mono (by decide))) rd_blownW
theorem ok_is_hand : FnOk P w K mg base CX0 1 Z.f_is_hand Z.fd_is_hand ["entry"] (spA K 1 g_is_hand) := okA Z.F_is_hand sc_is_hand (bd_is_hand Z (k := 0) ) rd_is_hand
theorem ok_done : FnOk P w K mg base CX0 4 Z.f_done Z.fd_done ["dune", "entries"] (spA K 2 g_done) := okA Z.F_done sc_done (bd_done Z (k := 3) ((ok_handed Z).mono (by decide)) ((ok_blown Z).mono (by decide)) ((ok_is_hand Z).mono (by decide))) rd_done
theorem ok_entries_with : FnOk P w K mg base CX0 1 Z.f_entries_with Z.fd_entries_with ["entries", "words"] (spA K 2 g_entries_withP) := okA Z.F_entries_with sc_entries_with (bd_entries_with Z (k := 0) ) rd_entries_withP
theorem ok_slopes_between : FnOk P w K mg base CX0 2 Z.f_slopes_between Z.fd_slopes_between ["book"] (spA K 1 g_slopes_between_k56) := okA Z.F_slopes_between sc_slopes_between (bd_slopes_between Z (k := 1) ((ok_is_hand Z).mono (by decide))) rd_slopes_between_k56
theorem ok_same_hands : FnOk P w K mg base CX0 2 Z.f_same_hands Z.fd_same_hands ["cutter", "filler"] (spA K 2 g_same_handsP) := okA Z.F_same_hands sc_same_hands (bd_same_hands Z (k := 1) ((ok_entries_with Z).mono (by decide))) rd_same_handsP
theorem ok_stretches : FnOk P w K mg base CX0 3 Z.f_stretches Z.fd_stretches ["cutter", "filler"] (spA K 2 g_stretches_k56) := okA Z.F_stretches sc_stretches (bd_stretches Z (k := 2) ((ok_slopes_between Z).mono (by decide)) ((ok_same_hands Z).mono (by decide))) rd_stretches_k56
theorem ok_all_of_one_first : FnOk P w K mg base CX0 2 Z.f_all_of_one_first Z.fd_all_of_one_first ["parts", "word"] (spA K 2 g_all_of_one_first) := okA Z.F_all_of_one_first sc_all_of_one_first (bd_all_of_one_first Z (k := 1) ((ok_almanac_of Z).mono (by decide))) rd_all_of_one_first
theorem ok_long_may : FnOk P w K mg base CX0 5 Z.f_long_may Z.fd_long_may ["dune", "cutter", "filler"] (spA K 3 g_long_may_k56) := okA Z.F_long_may sc_long_may (bd_long_may Z (k := 4) ((ok_done Z).mono (by decide)) ((ok_stretches Z).mono (by decide)) ((ok_all_of_one_first Z).mono (by decide))) rd_long_may_k56
theorem ok_long_many : FnOk P w K mg base CX0 7 Z.f_long_many Z.fd_long_many ["cutter", "filler"] (spA K 2 g_long_many) := okA Z.F_long_many sc_long_many (bd_long_many Z (k := 6) ((ok_orders_many Z).mono (by decide)) ((ok_stretches Z).mono (by decide))) rd_long_many
theorem ok__law_cell_at : FnOk P w K mg base CX0 1 Z.f__law_cell_at Z.fd__law_cell_at ["_law_script", "_law_k"] (spA K 2 g__law_cell_at) := okA Z.F__law_cell_at sc__law_cell_at (bd__law_cell_at Z (k := 0) ) rd__law_cell_at
theorem ok__law_box : FnOk P w K mg base CX0 2 Z.f__law_box Z.fd__law_box ["_law_script", "_law_k"] (spA K 2 g__law_box) := okA Z.F__law_box sc__law_box (bd__law_box Z (k := 1) ((ok__law_cell_at Z).mono (by decide))) rd__law_box
theorem ok__law_take_0 : FnOk P w K mg base CX0 1 Z.f__law_take Z.fd__law_take ["_law_box_here", "_law_size"] (spB K 2 g_take0) := okB Z.F__law_take sc__law_take (bd__law_take Z (k := 0) (fnNoneB Z.F__law_take)) rd_take0
theorem ok__law_take : FnOk P w K mg base CX0 2 Z.f__law_take Z.fd__law_take ["_law_box_here", "_law_size"] (spB K 2 (g_take 100000000000000)) := okB Z.F__law_take sc__law_take (bd__law_take Z (k := 1) ((ok__law_take_0 Z).mono (by decide))) rd_take
theorem ok__law_of : FnOk P w K mg base CX0 3 Z.f__law_of Z.fd__law_of ["_law_box_here", "_law_some"] (spB K 2 g__law_of) := okB Z.F__law_of sc__law_of (bd__law_of Z (k := 2) ((ok__law_take Z).mono (by decide))) rd__law_of
theorem ok__law_same_0 : FnOk P w K mg base CX0 1 Z.f__law_same Z.fd__law_same ["_law_told_here", "_law_due_here"] (spA K 2 (gS 1)) := okA Z.F__law_same sc__law_same (bd__law_same Z (k := 0) (fnNoneA Z.F__law_same)) (rd_same 0)
theorem ok__law_same_1 : FnOk P w K mg base CX0 2 Z.f__law_same Z.fd__law_same ["_law_told_here", "_law_due_here"] (spA K 2 (gS 2)) := okA Z.F__law_same sc__law_same (bd__law_same Z (k := 1) ((ok__law_same_0 Z).mono (by decide))) (rd_same 1)
theorem ok__law_same_2 : FnOk P w K mg base CX0 3 Z.f__law_same Z.fd__law_same ["_law_told_here", "_law_due_here"] (spA K 2 (gS 3)) := okA Z.F__law_same sc__law_same (bd__law_same Z (k := 2) ((ok__law_same_1 Z).mono (by decide))) (rd_same 2)
theorem ok__law_same_3 : FnOk P w K mg base CX0 4 Z.f__law_same Z.fd__law_same ["_law_told_here", "_law_due_here"] (spA K 2 (gS 4)) := okA Z.F__law_same sc__law_same (bd__law_same Z (k := 3) ((ok__law_same_2 Z).mono (by decide))) (rd_same 3)
theorem ok__law_same : FnOk P w K mg base CX0 5 Z.f__law_same Z.fd__law_same ["_law_told_here", "_law_due_here"] (spA K 2 (gS 5)) := okA Z.F__law_same sc__law_same (bd__law_same Z (k := 4) ((ok__law_same_3 Z).mono (by decide))) (rd_same 4)
theorem ok__law_slope : FnOk P w K mg base CX0 3 Z.f__law_slope Z.fd__law_slope ["_law_box_here"] (spB K 1 g__law_slope) := okB Z.F__law_slope sc__law_slope (bd__law_slope Z (k := 2) ((ok__law_take Z).mono (by decide))) rd__law_slope
theorem ok__law_lists_0 : FnOk P w K mg base CX0 1 Z.f__law_lists Z.fd__law_lists ["_law_thing"] (spA K 1 (gL 1)) := okA Z.F__law_lists sc__law_lists (bd__law_lists Z (k := 0) (fnNoneA Z.F__law_lists)) (rd_lists 0)
theorem ok__law_lists_1 : FnOk P w K mg base CX0 2 Z.f__law_lists Z.fd__law_lists ["_law_thing"] (spA K 1 (gL 2)) := okA Z.F__law_lists sc__law_lists (bd__law_lists Z (k := 1) ((ok__law_lists_0 Z).mono (by decide))) (rd_lists 1)
theorem ok__law_lists_2 : FnOk P w K mg base CX0 3 Z.f__law_lists Z.fd__law_lists ["_law_thing"] (spA K 1 (gL 3)) := okA Z.F__law_lists sc__law_lists (bd__law_lists Z (k := 2) ((ok__law_lists_1 Z).mono (by decide))) (rd_lists 2)
theorem ok__law_lists : FnOk P w K mg base CX0 4 Z.f__law_lists Z.fd__law_lists ["_law_thing"] (spA K 1 (gL 4)) := okA Z.F__law_lists sc__law_lists (bd__law_lists Z (k := 3) ((ok__law_lists_2 Z).mono (by decide))) (rd_lists 3)
theorem ok__law_entries : FnOk P w K mg base CX0 4 Z.f__law_entries Z.fd__law_entries ["_law_box_here", "_law_posts", "_law_size"] (spB K 3 g__law_entries) := okB Z.F__law_entries sc__law_entries (bd__law_entries Z (k := 3) ((ok__law_take Z).mono (by decide)) ((ok__law_slope Z).mono (by decide))) rd__law_entries
theorem ok__law_books_of : FnOk P w K mg base CX0 1 Z.f__law_books_of Z.fd__law_books_of ["_law_entries_here"] (spA K 1 g__law_books_of) := okA Z.F__law_books_of sc__law_books_of (bd__law_books_of Z (k := 0) ) rd__law_books_of
theorem ok__law_due : FnOk P w K mg base CX0 1 Z.f__law_due Z.fd__law_due ["_law_entries_here"] (spA K 1 g__law_due) := okA Z.F__law_due sc__law_due (bd__law_due Z (k := 0) ) rd__law_due
theorem okI_Astray : FnOk P w K mg base CX0 1 Z.fI_Astray Z.fdI_Astray ["self", "number"] (spI K "Astray" Z.C_Astray (fun _ => True)) := bdI_Astray Z (k := 0)
theorem okx_same_hands : FnOk P w K mg base (L2.CX P w) 3 Z.f_same_hands Z.fd_same_hands ["cutter", "filler"] (spX K 2 gx_same_hands) := okX Z.F_same_hands sc_same_hands (bdx_same_hands Z (k := 1) ((ok_entries_with Z).mono (by decide)) ((okI_Astray Z).mono (by decide))) rdx_same_hands
theorem okx_stretches : FnOk P w K mg base (L2.CX P w) 5 Z.f_stretches Z.fd_stretches ["cutter", "filler"] (spX K 2 gx_stretches) := okX Z.F_stretches sc_stretches (bdx_stretches Z (k := 3) ((ok_slopes_between Z).mono (by decide)) ((ok_same_hands Z).mono (by decide)) ((okx_same_hands Z).mono (by decide))) rdx_stretches
theorem okI_NoPost : FnOk P w K mg base CX0 1 Z.fI_NoPost Z.fdI_NoPost ["self", "post"] (spI K "NoPost" Z.C_NoPost (fun _ => True)) := bdI_NoPost Z (k := 0)
theorem okx_handed : FnOk P w K mg base (L2.CX P w) 3 Z.f_handed Z.fd_handed ["dune", "post", "by"] (spX K 3 gx_handed) := okX Z.F_handed sc_handed (bdx_handed Z (k := 1) ((okI_NoPost Z).mono (by decide))) rdx_handed
theorem okx_done : FnOk P w K mg base (L2.CX P w) 5 Z.f_done Z.fd_done ["dune", "entries"] (spX K 2 gx_done) := okX Z.F_done sc_done (bdx_done Z (k := 3) ((ok_handed Z).mono (by decide)) ((ok_blown Z).mono (by decide)) ((ok_is_hand Z).mono (by decide)) ((okx_handed Z).mono (by decide))) rdx_done
theorem okx_long_may : FnOk P w K mg base (L2.CX P w) 7 Z.f_long_may Z.fd_long_may ["dune", "cutter", "filler"] (spX K 3 gx_long_may) := okX Z.F_long_may sc_long_may (bdx_long_may Z (k := 5) ((ok_done Z).mono (by decide)) ((ok_stretches Z).mono (by decide)) ((ok_all_of_one_first Z).mono (by decide)) ((okx_done Z).mono (by decide)) ((okx_stretches Z).mono (by decide))) rdx_long_may
theorem okx_long_many : FnOk P w K mg base (L2.CX P w) 8 Z.f_long_many Z.fd_long_many ["cutter", "filler"] (spX K 2 gx_long_many) := okX Z.F_long_many sc_long_many (bdx_long_many Z (k := 6) ((ok_orders_many Z).mono (by decide)) ((ok_stretches Z).mono (by decide)) ((okx_stretches Z).mono (by decide))) rdx_long_many
theorem ok__law_told : FnOk P w K mg base CX0 9 Z.f__law_told Z.fd__law_told ["_law_way", "_law_cutter", "_law_filler"] (spA K 3 g_toldK) := okA Z.F__law_told sc__law_told (bd__law_told Z (k := 8) ((ok_stretches Z).mono (by decide)) ((ok_long_may Z).mono (by decide)) ((ok_long_many Z).mono (by decide)) ((okx_stretches Z).mono (by decide)) ((okx_long_may Z).mono (by decide)) ((okx_long_many Z).mono (by decide))) rd_toldK
theorem ok__law_bent : FnOk P w K mg base CX0 4 Z.f__law_bent Z.fd__law_bent ["_law_box_here", "_law_book"] (spB K 2 g__law_bent) := okB Z.F__law_bent sc__law_bent (bd__law_bent Z (k := 3) ((ok__law_take Z).mono (by decide)) ((ok__law_of Z).mono (by decide))) rd__law_bent
theorem ok__law_right : FnOk P w K mg base CX0 10 Z.f__law_right Z.fd__law_right ["_law_box_here"] (spB K 1 g__law_right) := okB Z.F__law_right sc__law_right (bd__law_right Z (k := 9) ((ok__law_same Z).mono (by decide)) ((ok__law_lists Z).mono (by decide)) ((ok__law_entries Z).mono (by decide)) ((ok__law_books_of Z).mono (by decide)) ((ok__law_due Z).mono (by decide)) ((ok__law_told Z).mono (by decide)) ((ok__law_bent Z).mono (by decide))) rd__law_right
theorem ok_law : FnOk P w K mg base CX0 11 Z.f_law Z.fd_law ["_law_script"] (spA K 1 g_law) := okA Z.F_law sc_law (bd_law Z (k := 10) ((ok__law_box Z).mono (by decide)) ((ok__law_right Z).mono (by decide))) rd_law
end
set_option maxHeartbeats 4000000 in
theorem all_mk {l : PySem.W.OpenLaw} {w : World} {K : PySem.W.Frag} {h : Heap} {mg : Str → Option Value} {fa : Addr} (X : K.In h) (G : h.Ns mainGlobals mg) (hfa : mg "law" = some (.ref fa)) {f0 : Addr} {od0 an0 : Option Addr} {sl0 : Array (Option Value)} {oc0 kV0 dc0 pm0 cd0 ct0 : Value} {f1 : Addr} {od1 an1 : Option Addr} {sl1 : Array (Option Value)} {oc1 kV1 dc1 pm1 cd1 ct1 : Value} {f2 : Addr} {od2 an2 : Option Addr} {sl2 : Array (Option Value)} {oc2 kV2 dc2 pm2 cd2 ct2 : Value} {f3 : Addr} {od3 an3 : Option Addr} {sl3 : Array (Option Value)} {oc3 kV3 dc3 pm3 cd3 ct3 : Value} {f4 : Addr} {od4 an4 : Option Addr} {sl4 : Array (Option Value)} {oc4 kV4 dc4 pm4 cd4 ct4 : Value} {f5 : Addr} {od5 an5 : Option Addr} {sl5 : Array (Option Value)} {oc5 kV5 dc5 pm5 cd5 ct5 : Value} {f6 : Addr} {od6 an6 : Option Addr} {sl6 : Array (Option Value)} {oc6 kV6 dc6 pm6 cd6 ct6 : Value} {f7 : Addr} {od7 an7 : Option Addr} {sl7 : Array (Option Value)} {oc7 kV7 dc7 pm7 cd7 ct7 : Value} {f8 : Addr} {od8 an8 : Option Addr} {sl8 : Array (Option Value)} {oc8 kV8 dc8 pm8 cd8 ct8 : Value} {f9 : Addr} {od9 an9 : Option Addr} {sl9 : Array (Option Value)} {oc9 kV9 dc9 pm9 cd9 ct9 : Value} {f10 : Addr} {od10 an10 : Option Addr} {sl10 : Array (Option Value)} {oc10 kV10 dc10 pm10 cd10 ct10 : Value} {f11 : Addr} {od11 an11 : Option Addr} {sl11 : Array (Option Value)} {oc11 kV11 dc11 pm11 cd11 ct11 : Value} {f12 : Addr} {od12 an12 : Option Addr} {sl12 : Array (Option Value)} {oc12 kV12 dc12 pm12 cd12 ct12 : Value} {f13 : Addr} {od13 an13 : Option Addr} {sl13 : Array (Option Value)} {oc13 kV13 dc13 pm13 cd13 ct13 : Value} {f14 : Addr} {od14 an14 : Option Addr} {sl14 : Array (Option Value)} {oc14 kV14 dc14 pm14 cd14 ct14 : Value} {f15 : Addr} {od15 an15 : Option Addr} {sl15 : Array (Option Value)} {oc15 kV15 dc15 pm15 cd15 ct15 : Value} {f16 : Addr} {od16 an16 : Option Addr} {sl16 : Array (Option Value)} {oc16 kV16 dc16 pm16 cd16 ct16 : Value} {f17 : Addr} {od17 an17 : Option Addr} {sl17 : Array (Option Value)} {oc17 kV17 dc17 pm17 cd17 ct17 : Value} {f18 : Addr} {od18 an18 : Option Addr} {sl18 : Array (Option Value)} {oc18 kV18 dc18 pm18 cd18 ct18 : Value} {f19 : Addr} {od19 an19 : Option Addr} {sl19 : Array (Option Value)} {oc19 kV19 dc19 pm19 cd19 ct19 : Value} {f20 : Addr} {od20 an20 : Option Addr} {sl20 : Array (Option Value)} {oc20 kV20 dc20 pm20 cd20 ct20 : Value} {f21 : Addr} {od21 an21 : Option Addr} {sl21 : Array (Option Value)} {oc21 kV21 dc21 pm21 cd21 ct21 : Value} {f22 : Addr} {od22 an22 : Option Addr} {sl22 : Array (Option Value)} {oc22 kV22 dc22 pm22 cd22 ct22 : Value} {f23 : Addr} {od23 an23 : Option Addr} {sl23 : Array (Option Value)} {oc23 kV23 dc23 pm23 cd23 ct23 : Value} {f24 : Addr} {od24 an24 : Option Addr} {sl24 : Array (Option Value)} {oc24 kV24 dc24 pm24 cd24 ct24 : Value} {f25 : Addr} {od25 an25 : Option Addr} {sl25 : Array (Option Value)} {oc25 kV25 dc25 pm25 cd25 ct25 : Value} {f26 : Addr} {od26 an26 : Option Addr} {sl26 : Array (Option Value)} {oc26 kV26 dc26 pm26 cd26 ct26 : Value} {f27 : Addr} {od27 an27 : Option Addr} {sl27 : Array (Option Value)} {oc27 kV27 dc27 pm27 cd27 ct27 : Value} {f28 : Addr} {od28 an28 : Option Addr} {sl28 : Array (Option Value)} {oc28 kV28 dc28 pm28 cd28 ct28 : Value} {f29 : Addr} {od29 an29 : Option Addr} {sl29 : Array (Option Value)} {oc29 kV29 dc29 pm29 cd29 ct29 : Value} {f30 : Addr} {od30 an30 : Option Addr} {sl30 : Array (Option Value)} {oc30 kV30 dc30 pm30 cd30 ct30 : Value} {f31 : Addr} {od31 an31 : Option Addr} {sl31 : Array (Option Value)} {oc31 kV31 dc31 pm31 cd31 ct31 : Value} {f32 : Addr} {od32 an32 : Option Addr} {sl32 : Array (Option Value)} {oc32 kV32 dc32 pm32 cd32 ct32 : Value} {f33 : Addr} {od33 an33 : Option Addr} {sl33 : Array (Option Value)} {oc33 kV33 dc33 pm33 cd33 ct33 : Value} {f34 : Addr} {od34 an34 : Option Addr} {sl34 : Array (Option Value)} {oc34 kV34 dc34 pm34 cd34 ct34 : Value} {f35 : Addr} {od35 an35 : Option Addr} {sl35 : Array (Option Value)} {oc35 kV35 dc35 pm35 cd35 ct35 : Value} {f36 : Addr} {od36 an36 : Option Addr} {sl36 : Array (Option Value)} {oc36 kV36 dc36 pm36 cd36 ct36 : Value} {f37 : Addr} {od37 an37 : Option Addr} {sl37 : Array (Option Value)} {oc37 kV37 dc37 pm37 cd37 ct37 : Value} {f38 : Addr} {od38 an38 : Option Addr} {sl38 : Array (Option Value)} {oc38 kV38 dc38 pm38 cd38 ct38 : Value} {f39 : Addr} {od39 an39 : Option Addr} {sl39 : Array (Option Value)} {oc39 kV39 dc39 pm39 cd39 ct39 : Value} {xC0 xN0 : Addr} {xq0 : Str} {xbs0 xsub0 : List Value} {xsn0 : List Str} {xab0 : Bool} {xcol0 : Option Bool} {xdd0 : Option Addr} {xm00 xm01 xm02 xm03 xm05 : Option Value} {xfi0 : Addr} {xod0 xan0 : Option Addr} {xsl0 : Array (Option Value)} {xoc0 xkV0 xdc0 xpm0 xcd0 xct0 : Value} {xC1 xN1 : Addr} {xq1 : Str} {xbs1 xsub1 : List Value} {xsn1 : List Str} {xab1 : Bool} {xcol1 : Option Bool} {xdd1 : Option Addr} {xm10 xm11 xm12 xm13 xm15 : Option Value} {xC2 xN2 : Addr} {xq2 : Str} {xbs2 xsub2 : List Value} {xsn2 : List Str} {xab2 : Bool} {xcol2 : Option Bool} {xdd2 : Option Addr} {xm20 xm21 xm22 xm23 xm25 : Option Value} {xfi2 : Addr} {xod2 xan2 : Option Addr} {xsl2 : Array (Option Value)} {xoc2 xkV2 xdc2 xpm2 xcd2 xct2 : Value}
    (a0 : PySem.W.nsIn K mainGlobals "own_copy" = some (some (.ref f0))) (l0 : K.lookup f0 = some ⟨oc0, od0, .func (PySem.W.fnOf "own_copy" "own_copy" (defArgs s_own_copy) (defBody s_own_copy) (defScope s_own_copy) .none kV0 dc0 pm0 an0 cd0 ct0), sl0⟩) (c0 : PySem.W.codeIn K cd0 "own_copy" = true) (k0 : PySem.W.keepIn K (.ref f0) = true)
    (a1 : PySem.W.nsIn K mainGlobals "mirrored" = some (some (.ref f1))) (l1 : K.lookup f1 = some ⟨oc1, od1, .func (PySem.W.fnOf "mirrored" "mirrored" (defArgs s_mirrored) (defBody s_mirrored) (defScope s_mirrored) .none kV1 dc1 pm1 an1 cd1 ct1), sl1⟩) (c1 : PySem.W.codeIn K cd1 "mirrored" = true) (k1 : PySem.W.keepIn K (.ref f1) = true)
    (a2 : PySem.W.nsIn K mainGlobals "upside" = some (some (.ref f2))) (l2 : K.lookup f2 = some ⟨oc2, od2, .func (PySem.W.fnOf "upside" "upside" (defArgs s_upside) (defBody s_upside) (defScope s_upside) .none kV2 dc2 pm2 an2 cd2 ct2), sl2⟩) (c2 : PySem.W.codeIn K cd2 "upside" = true) (k2 : PySem.W.keepIn K (.ref f2) = true)
    (a3 : PySem.W.nsIn K mainGlobals "handed" = some (some (.ref f3))) (l3 : K.lookup f3 = some ⟨oc3, od3, .func (PySem.W.fnOf "handed" "handed" (defArgs s_handed) (defBody s_handed) (defScope s_handed) .none kV3 dc3 pm3 an3 cd3 ct3), sl3⟩) (c3 : PySem.W.codeIn K cd3 "handed" = true) (k3 : PySem.W.keepIn K (.ref f3) = true)
    (a4 : PySem.W.nsIn K mainGlobals "almanac_of" = some (some (.ref f4))) (l4 : K.lookup f4 = some ⟨oc4, od4, .func (PySem.W.fnOf "almanac_of" "almanac_of" (defArgs s_almanac_of) (defBody s_almanac_of) (defScope s_almanac_of) .none kV4 dc4 pm4 an4 cd4 ct4), sl4⟩) (c4 : PySem.W.codeIn K cd4 "almanac_of" = true) (k4 : PySem.W.keepIn K (.ref f4) = true)
    (a5 : PySem.W.nsIn K mainGlobals "are_contrary" = some (some (.ref f5))) (l5 : K.lookup f5 = some ⟨oc5, od5, .func (PySem.W.fnOf "are_contrary" "are_contrary" (defArgs s_are_contrary) (defBody s_are_contrary) (defScope s_are_contrary) .none kV5 dc5 pm5 an5 cd5 ct5), sl5⟩) (c5 : PySem.W.codeIn K cd5 "are_contrary" = true) (k5 : PySem.W.keepIn K (.ref f5) = true)
    (a6 : PySem.W.nsIn K mainGlobals "first_clash" = some (some (.ref f6))) (l6 : K.lookup f6 = some ⟨oc6, od6, .func (PySem.W.fnOf "first_clash" "first_clash" (defArgs s_first_clash) (defBody s_first_clash) (defScope s_first_clash) .none kV6 dc6 pm6 an6 cd6 ct6), sl6⟩) (c6 : PySem.W.codeIn K cd6 "first_clash" = true) (k6 : PySem.W.keepIn K (.ref f6) = true)
    (a7 : PySem.W.nsIn K mainGlobals "refuse_clash" = some (some (.ref f7))) (l7 : K.lookup f7 = some ⟨oc7, od7, .func (PySem.W.fnOf "refuse_clash" "refuse_clash" (defArgs s_refuse_clash) (defBody s_refuse_clash) (defScope s_refuse_clash) .none kV7 dc7 pm7 an7 cd7 ct7), sl7⟩) (c7 : PySem.W.codeIn K cd7 "refuse_clash" = true) (k7 : PySem.W.keepIn K (.ref f7) = true)
    (a8 : PySem.W.nsIn K mainGlobals "least_ahead" = some (some (.ref f8))) (l8 : K.lookup f8 = some ⟨oc8, od8, .func (PySem.W.fnOf "least_ahead" "least_ahead" (defArgs s_least_ahead) (defBody s_least_ahead) (defScope s_least_ahead) .none kV8 dc8 pm8 an8 cd8 ct8), sl8⟩) (c8 : PySem.W.codeIn K cd8 "least_ahead" = true) (k8 : PySem.W.keepIn K (.ref f8) = true)
    (a9 : PySem.W.nsIn K mainGlobals "most_ahead" = some (some (.ref f9))) (l9 : K.lookup f9 = some ⟨oc9, od9, .func (PySem.W.fnOf "most_ahead" "most_ahead" (defArgs s_most_ahead) (defBody s_most_ahead) (defScope s_most_ahead) .none kV9 dc9 pm9 an9 cd9 ct9), sl9⟩) (c9 : PySem.W.codeIn K cd9 "most_ahead" = true) (k9 : PySem.W.keepIn K (.ref f9) = true)
    (a10 : PySem.W.nsIn K mainGlobals "bounds" = some (some (.ref f10))) (l10 : K.lookup f10 = some ⟨oc10, od10, .func (PySem.W.fnOf "bounds" "bounds" (defArgs s_bounds) (defBody s_bounds) (defScope s_bounds) .none kV10 dc10 pm10 an10 cd10 ct10), sl10⟩) (c10 : PySem.W.codeIn K cd10 "bounds" = true) (k10 : PySem.W.keepIn K (.ref f10) = true)
    (a11 : PySem.W.nsIn K mainGlobals "ways_on" = some (some (.ref f11))) (l11 : K.lookup f11 = some ⟨oc11, od11, .func (PySem.W.fnOf "ways_on" "ways_on" (defArgs s_ways_on) (defBody s_ways_on) (defScope s_ways_on) .none kV11 dc11 pm11 an11 cd11 ct11), sl11⟩) (c11 : PySem.W.codeIn K cd11 "ways_on" = true) (k11 : PySem.W.keepIn K (.ref f11) = true)
    (a12 : PySem.W.nsIn K mainGlobals "ways_ahead" = some (some (.ref f12))) (l12 : K.lookup f12 = some ⟨oc12, od12, .func (PySem.W.fnOf "ways_ahead" "ways_ahead" (defArgs s_ways_ahead) (defBody s_ways_ahead) (defScope s_ways_ahead) .none kV12 dc12 pm12 an12 cd12 ct12), sl12⟩) (c12 : PySem.W.codeIn K cd12 "ways_ahead" = true) (k12 : PySem.W.keepIn K (.ref f12) = true)
    (a13 : PySem.W.nsIn K mainGlobals "orders_many" = some (some (.ref f13))) (l13 : K.lookup f13 = some ⟨oc13, od13, .func (PySem.W.fnOf "orders_many" "orders_many" (defArgs s_orders_many) (defBody s_orders_many) (defScope s_orders_many) .none kV13 dc13 pm13 an13 cd13 ct13), sl13⟩) (c13 : PySem.W.codeIn K cd13 "orders_many" = true) (k13 : PySem.W.keepIn K (.ref f13) = true)
    (a14 : PySem.W.nsIn K mainGlobals "blown" = some (some (.ref f14))) (l14 : K.lookup f14 = some ⟨oc14, od14, .func (PySem.W.fnOf "blown" "blown" (defArgs s_blown) (defBody s_blown) (defScope s_blown) .none kV14 dc14 pm14 an14 cd14 ct14), sl14⟩) (c14 : PySem.W.codeIn K cd14 "blown" = true) (k14 : PySem.W.keepIn K (.ref f14) = true)
    (a15 : PySem.W.nsIn K mainGlobals "cut_to" = some (some (.ref f15))) (l15 : K.lookup f15 = some ⟨oc15, od15, .func (PySem.W.fnOf "cut_to" "cut_to" (defArgs s_cut_to) (defBody s_cut_to) (defScope s_cut_to) .none kV15 dc15 pm15 an15 cd15 ct15), sl15⟩) (c15 : PySem.W.codeIn K cd15 "cut_to" = true) (k15 : PySem.W.keepIn K (.ref f15) = true)
    (a16 : PySem.W.nsIn K mainGlobals "cut_onward" = some (some (.ref f16))) (l16 : K.lookup f16 = some ⟨oc16, od16, .func (PySem.W.fnOf "cut_onward" "cut_onward" (defArgs s_cut_onward) (defBody s_cut_onward) (defScope s_cut_onward) .none kV16 dc16 pm16 an16 cd16 ct16), sl16⟩) (c16 : PySem.W.codeIn K cd16 "cut_onward" = true) (k16 : PySem.W.keepIn K (.ref f16) = true)
    (a17 : PySem.W.nsIn K mainGlobals "is_hand" = some (some (.ref f17))) (l17 : K.lookup f17 = some ⟨oc17, od17, .func (PySem.W.fnOf "is_hand" "is_hand" (defArgs s_is_hand) (defBody s_is_hand) (defScope s_is_hand) .none kV17 dc17 pm17 an17 cd17 ct17), sl17⟩) (c17 : PySem.W.codeIn K cd17 "is_hand" = true) (k17 : PySem.W.keepIn K (.ref f17) = true)
    (a18 : PySem.W.nsIn K mainGlobals "done" = some (some (.ref f18))) (l18 : K.lookup f18 = some ⟨oc18, od18, .func (PySem.W.fnOf "done" "done" (defArgs s_done) (defBody s_done) (defScope s_done) .none kV18 dc18 pm18 an18 cd18 ct18), sl18⟩) (c18 : PySem.W.codeIn K cd18 "done" = true) (k18 : PySem.W.keepIn K (.ref f18) = true)
    (a19 : PySem.W.nsIn K mainGlobals "entries_with" = some (some (.ref f19))) (l19 : K.lookup f19 = some ⟨oc19, od19, .func (PySem.W.fnOf "entries_with" "entries_with" (defArgs s_entries_with) (defBody s_entries_with) (defScope s_entries_with) .none kV19 dc19 pm19 an19 cd19 ct19), sl19⟩) (c19 : PySem.W.codeIn K cd19 "entries_with" = true) (k19 : PySem.W.keepIn K (.ref f19) = true)
    (a20 : PySem.W.nsIn K mainGlobals "slopes_between" = some (some (.ref f20))) (l20 : K.lookup f20 = some ⟨oc20, od20, .func (PySem.W.fnOf "slopes_between" "slopes_between" (defArgs s_slopes_between) (defBody s_slopes_between) (defScope s_slopes_between) .none kV20 dc20 pm20 an20 cd20 ct20), sl20⟩) (c20 : PySem.W.codeIn K cd20 "slopes_between" = true) (k20 : PySem.W.keepIn K (.ref f20) = true)
    (a21 : PySem.W.nsIn K mainGlobals "same_hands" = some (some (.ref f21))) (l21 : K.lookup f21 = some ⟨oc21, od21, .func (PySem.W.fnOf "same_hands" "same_hands" (defArgs s_same_hands) (defBody s_same_hands) (defScope s_same_hands) .none kV21 dc21 pm21 an21 cd21 ct21), sl21⟩) (c21 : PySem.W.codeIn K cd21 "same_hands" = true) (k21 : PySem.W.keepIn K (.ref f21) = true)
    (a22 : PySem.W.nsIn K mainGlobals "stretches" = some (some (.ref f22))) (l22 : K.lookup f22 = some ⟨oc22, od22, .func (PySem.W.fnOf "stretches" "stretches" (defArgs s_stretches) (defBody s_stretches) (defScope s_stretches) .none kV22 dc22 pm22 an22 cd22 ct22), sl22⟩) (c22 : PySem.W.codeIn K cd22 "stretches" = true) (k22 : PySem.W.keepIn K (.ref f22) = true)
    (a23 : PySem.W.nsIn K mainGlobals "all_of_one_first" = some (some (.ref f23))) (l23 : K.lookup f23 = some ⟨oc23, od23, .func (PySem.W.fnOf "all_of_one_first" "all_of_one_first" (defArgs s_all_of_one_first) (defBody s_all_of_one_first) (defScope s_all_of_one_first) .none kV23 dc23 pm23 an23 cd23 ct23), sl23⟩) (c23 : PySem.W.codeIn K cd23 "all_of_one_first" = true) (k23 : PySem.W.keepIn K (.ref f23) = true)
    (a24 : PySem.W.nsIn K mainGlobals "long_may" = some (some (.ref f24))) (l24 : K.lookup f24 = some ⟨oc24, od24, .func (PySem.W.fnOf "long_may" "long_may" (defArgs s_long_may) (defBody s_long_may) (defScope s_long_may) .none kV24 dc24 pm24 an24 cd24 ct24), sl24⟩) (c24 : PySem.W.codeIn K cd24 "long_may" = true) (k24 : PySem.W.keepIn K (.ref f24) = true)
    (a25 : PySem.W.nsIn K mainGlobals "long_many" = some (some (.ref f25))) (l25 : K.lookup f25 = some ⟨oc25, od25, .func (PySem.W.fnOf "long_many" "long_many" (defArgs s_long_many) (defBody s_long_many) (defScope s_long_many) .none kV25 dc25 pm25 an25 cd25 ct25), sl25⟩) (c25 : PySem.W.codeIn K cd25 "long_many" = true) (k25 : PySem.W.keepIn K (.ref f25) = true)
    (a26 : PySem.W.nsIn K mainGlobals "_law_cell_at" = some (some (.ref f26))) (l26 : K.lookup f26 = some ⟨oc26, od26, .func (PySem.W.fnOf "_law_cell_at" "_law_cell_at" (defArgs s__law_cell_at) (defBody s__law_cell_at) (defScope s__law_cell_at) .none kV26 dc26 pm26 an26 cd26 ct26), sl26⟩) (c26 : PySem.W.codeIn K cd26 "_law_cell_at" = true) (k26 : PySem.W.keepIn K (.ref f26) = true)
    (a27 : PySem.W.nsIn K mainGlobals "_law_box" = some (some (.ref f27))) (l27 : K.lookup f27 = some ⟨oc27, od27, .func (PySem.W.fnOf "_law_box" "_law_box" (defArgs s__law_box) (defBody s__law_box) (defScope s__law_box) .none kV27 dc27 pm27 an27 cd27 ct27), sl27⟩) (c27 : PySem.W.codeIn K cd27 "_law_box" = true) (k27 : PySem.W.keepIn K (.ref f27) = true)
    (a28 : PySem.W.nsIn K mainGlobals "_law_take" = some (some (.ref f28))) (l28 : K.lookup f28 = some ⟨oc28, od28, .func (PySem.W.fnOf "_law_take" "_law_take" (defArgs s__law_take) (defBody s__law_take) (defScope s__law_take) .none kV28 dc28 pm28 an28 cd28 ct28), sl28⟩) (c28 : PySem.W.codeIn K cd28 "_law_take" = true) (k28 : PySem.W.keepIn K (.ref f28) = true)
    (a29 : PySem.W.nsIn K mainGlobals "_law_of" = some (some (.ref f29))) (l29 : K.lookup f29 = some ⟨oc29, od29, .func (PySem.W.fnOf "_law_of" "_law_of" (defArgs s__law_of) (defBody s__law_of) (defScope s__law_of) .none kV29 dc29 pm29 an29 cd29 ct29), sl29⟩) (c29 : PySem.W.codeIn K cd29 "_law_of" = true) (k29 : PySem.W.keepIn K (.ref f29) = true)
    (a30 : PySem.W.nsIn K mainGlobals "_law_same" = some (some (.ref f30))) (l30 : K.lookup f30 = some ⟨oc30, od30, .func (PySem.W.fnOf "_law_same" "_law_same" (defArgs s__law_same) (defBody s__law_same) (defScope s__law_same) .none kV30 dc30 pm30 an30 cd30 ct30), sl30⟩) (c30 : PySem.W.codeIn K cd30 "_law_same" = true) (k30 : PySem.W.keepIn K (.ref f30) = true)
    (a31 : PySem.W.nsIn K mainGlobals "_law_slope" = some (some (.ref f31))) (l31 : K.lookup f31 = some ⟨oc31, od31, .func (PySem.W.fnOf "_law_slope" "_law_slope" (defArgs s__law_slope) (defBody s__law_slope) (defScope s__law_slope) .none kV31 dc31 pm31 an31 cd31 ct31), sl31⟩) (c31 : PySem.W.codeIn K cd31 "_law_slope" = true) (k31 : PySem.W.keepIn K (.ref f31) = true)
    (a32 : PySem.W.nsIn K mainGlobals "_law_lists" = some (some (.ref f32))) (l32 : K.lookup f32 = some ⟨oc32, od32, .func (PySem.W.fnOf "_law_lists" "_law_lists" (defArgs s__law_lists) (defBody s__law_lists) (defScope s__law_lists) .none kV32 dc32 pm32 an32 cd32 ct32), sl32⟩) (c32 : PySem.W.codeIn K cd32 "_law_lists" = true) (k32 : PySem.W.keepIn K (.ref f32) = true)
    (a33 : PySem.W.nsIn K mainGlobals "_law_entries" = some (some (.ref f33))) (l33 : K.lookup f33 = some ⟨oc33, od33, .func (PySem.W.fnOf "_law_entries" "_law_entries" (defArgs s__law_entries) (defBody s__law_entries) (defScope s__law_entries) .none kV33 dc33 pm33 an33 cd33 ct33), sl33⟩) (c33 : PySem.W.codeIn K cd33 "_law_entries" = true) (k33 : PySem.W.keepIn K (.ref f33) = true)
    (a34 : PySem.W.nsIn K mainGlobals "_law_books_of" = some (some (.ref f34))) (l34 : K.lookup f34 = some ⟨oc34, od34, .func (PySem.W.fnOf "_law_books_of" "_law_books_of" (defArgs s__law_books_of) (defBody s__law_books_of) (defScope s__law_books_of) .none kV34 dc34 pm34 an34 cd34 ct34), sl34⟩) (c34 : PySem.W.codeIn K cd34 "_law_books_of" = true) (k34 : PySem.W.keepIn K (.ref f34) = true)
    (a35 : PySem.W.nsIn K mainGlobals "_law_due" = some (some (.ref f35))) (l35 : K.lookup f35 = some ⟨oc35, od35, .func (PySem.W.fnOf "_law_due" "_law_due" (defArgs s__law_due) (defBody s__law_due) (defScope s__law_due) .none kV35 dc35 pm35 an35 cd35 ct35), sl35⟩) (c35 : PySem.W.codeIn K cd35 "_law_due" = true) (k35 : PySem.W.keepIn K (.ref f35) = true)
    (a36 : PySem.W.nsIn K mainGlobals "_law_told" = some (some (.ref f36))) (l36 : K.lookup f36 = some ⟨oc36, od36, .func (PySem.W.fnOf "_law_told" "_law_told" (defArgs s__law_told) (defBody s__law_told) (defScope s__law_told) .none kV36 dc36 pm36 an36 cd36 ct36), sl36⟩) (c36 : PySem.W.codeIn K cd36 "_law_told" = true) (k36 : PySem.W.keepIn K (.ref f36) = true)
    (a37 : PySem.W.nsIn K mainGlobals "_law_bent" = some (some (.ref f37))) (l37 : K.lookup f37 = some ⟨oc37, od37, .func (PySem.W.fnOf "_law_bent" "_law_bent" (defArgs s__law_bent) (defBody s__law_bent) (defScope s__law_bent) .none kV37 dc37 pm37 an37 cd37 ct37), sl37⟩) (c37 : PySem.W.codeIn K cd37 "_law_bent" = true) (k37 : PySem.W.keepIn K (.ref f37) = true)
    (a38 : PySem.W.nsIn K mainGlobals "_law_right" = some (some (.ref f38))) (l38 : K.lookup f38 = some ⟨oc38, od38, .func (PySem.W.fnOf "_law_right" "_law_right" (defArgs s__law_right) (defBody s__law_right) (defScope s__law_right) .none kV38 dc38 pm38 an38 cd38 ct38), sl38⟩) (c38 : PySem.W.codeIn K cd38 "_law_right" = true) (k38 : PySem.W.keepIn K (.ref f38) = true)
    (a39 : PySem.W.nsIn K mainGlobals "law" = some (some (.ref f39))) (l39 : K.lookup f39 = some ⟨oc39, od39, .func (PySem.W.fnOf "law" "law" (defArgs s_law) (defBody s_law) (defScope s_law) .none kV39 dc39 pm39 an39 cd39 ct39), sl39⟩) (c39 : PySem.W.codeIn K cd39 "law" = true) (k39 : PySem.W.keepIn K (.ref f39) = true)
    (xh : PySem.W.specialIn K (.builtin "object.__class__") "__get__" = some (some (.builtin "getset_descriptor.__get__"))) (xt : PySem.W.takesIn K (.builtin "object.__class__") = some true)
    (xa0 : PySem.W.nsIn K mainGlobals "Astray" = some (some (.ref xC0))) (xl0 : K.lookup xC0 = some (excClassObj "Astray" xq0 xC0 xN0 xbs0 [.type "ValueError", .type "Exception", .type "BaseException", .type "object"] true xsn0 xsub0 xab0 xcol0 xdd0 xm00 xm01 xm02 xm03 xm05 "ValueError.__new__"))
    (xs0 : PySem.W.findIn K (.ref xC0) "__setattr__" = some (some (.builtin "object.__setattr__"))) (xg0 : PySem.W.findIn K (.ref xC0) "__getattribute__" = some (some (.builtin "BaseException.__getattribute__"))) (xo0 : PySem.W.findIn K (.ref xC0) "__getattr__" = some none) (xc0 : PySem.W.findIn K (.ref xC0) "__class__" = some (some (.builtin "object.__class__")))
    (xf0 : PySem.W.findIn K (.ref xC0) "number" = some none) (xk0 : PySem.W.keepIn K (.ref xC0) = true) (xe0 : PySem.W.subIn K (.ref xC0) (.type "BaseException") = some true) (xy0 : PySem.W.typeIn K (.ref xC0) = some (.type "type"))
    (xi0 : PySem.W.findIn K (.ref xC0) "__init__" = some (some (.ref xfi0))) (xw0 : PySem.W.typeIn K (.ref xfi0) = some (.type "function")) (xj0 : K.lookup xfi0 = some ⟨xoc0, xod0, .func (PySem.W.fnOf "__init__" "Astray.__init__" (defArgs si_Astray) (defBody si_Astray) (defScope si_Astray) .none xkV0 xdc0 xpm0 xan0 xcd0 xct0), xsl0⟩) (xr0 : PySem.W.codeIn K xcd0 "Astray.__init__" = true) (xz0 : PySem.W.keepIn K (.ref xfi0) = true) (xv0 : PySem.W.findCls K (.type "ValueError") (.type "type") "__init__" = some (.val (.builtin "ValueError.__init__")))
    (xa1 : PySem.W.nsIn K mainGlobals "Clash" = some (some (.ref xC1))) (xl1 : K.lookup xC1 = some (excClassObj "Clash" xq1 xC1 xN1 xbs1 [.type "ValueError", .type "Exception", .type "BaseException", .type "object"] true xsn1 xsub1 xab1 xcol1 xdd1 xm10 xm11 xm12 xm13 xm15 "ValueError.__new__"))
    (xs1 : PySem.W.findIn K (.ref xC1) "__setattr__" = some (some (.builtin "object.__setattr__"))) (xg1 : PySem.W.findIn K (.ref xC1) "__getattribute__" = some (some (.builtin "BaseException.__getattribute__"))) (xo1 : PySem.W.findIn K (.ref xC1) "__getattr__" = some none) (xc1 : PySem.W.findIn K (.ref xC1) "__class__" = some (some (.builtin "object.__class__")))
    (xf1 : PySem.W.findIn K (.ref xC1) "places" = some none) (xk1 : PySem.W.keepIn K (.ref xC1) = true) (xe1 : PySem.W.subIn K (.ref xC1) (.type "BaseException") = some true) (xy1 : PySem.W.typeIn K (.ref xC1) = some (.type "type"))
    (xa2 : PySem.W.nsIn K mainGlobals "NoPost" = some (some (.ref xC2))) (xl2 : K.lookup xC2 = some (excClassObj "NoPost" xq2 xC2 xN2 xbs2 [.type "LookupError", .type "Exception", .type "BaseException", .type "object"] true xsn2 xsub2 xab2 xcol2 xdd2 xm20 xm21 xm22 xm23 xm25 "LookupError.__new__"))
    (xs2 : PySem.W.findIn K (.ref xC2) "__setattr__" = some (some (.builtin "object.__setattr__"))) (xg2 : PySem.W.findIn K (.ref xC2) "__getattribute__" = some (some (.builtin "BaseException.__getattribute__"))) (xo2 : PySem.W.findIn K (.ref xC2) "__getattr__" = some none) (xc2 : PySem.W.findIn K (.ref xC2) "__class__" = some (some (.builtin "object.__class__")))
    (xf2 : PySem.W.findIn K (.ref xC2) "post" = some none) (xk2 : PySem.W.keepIn K (.ref xC2) = true) (xe2 : PySem.W.subIn K (.ref xC2) (.type "BaseException") = some true) (xy2 : PySem.W.typeIn K (.ref xC2) = some (.type "type"))
    (xi2 : PySem.W.findIn K (.ref xC2) "__init__" = some (some (.ref xfi2))) (xw2 : PySem.W.typeIn K (.ref xfi2) = some (.type "function")) (xj2 : K.lookup xfi2 = some ⟨xoc2, xod2, .func (PySem.W.fnOf "__init__" "NoPost.__init__" (defArgs si_NoPost) (defBody si_NoPost) (defScope si_NoPost) .none xkV2 xdc2 xpm2 xan2 xcd2 xct2), xsl2⟩) (xr2 : PySem.W.codeIn K xcd2 "NoPost.__init__" = true) (xz2 : PySem.W.keepIn K (.ref xfi2) = true) (xv2 : PySem.W.findCls K (.type "LookupError") (.type "type") "__init__" = some (.val (.builtin "LookupError.__init__")))
    (z0 : PySem.W.nsIn K mainGlobals "LookupError" = some none)
    (z1 : PySem.W.nsIn K mainGlobals "ValueError" = some none)
    (z2 : PySem.W.nsIn K mainGlobals "abs" = some none)
    (z3 : PySem.W.nsIn K mainGlobals "all" = some none)
    (z4 : PySem.W.nsIn K mainGlobals "bool" = some none)
    (z5 : PySem.W.nsIn K mainGlobals "enumerate" = some none)
    (z6 : PySem.W.nsIn K mainGlobals "int" = some none)
    (z7 : PySem.W.nsIn K mainGlobals "isinstance" = some none)
    (z8 : PySem.W.nsIn K mainGlobals "len" = some none)
    (z9 : PySem.W.nsIn K mainGlobals "list" = some none)
    (z10 : PySem.W.nsIn K mainGlobals "max" = some none)
    (z11 : PySem.W.nsIn K mainGlobals "min" = some none)
    (z12 : PySem.W.nsIn K mainGlobals "range" = some none)
    (z13 : PySem.W.nsIn K mainGlobals "reversed" = some none)
    (z14 : PySem.W.nsIn K mainGlobals "str" = some none)
    (z15 : PySem.W.nsIn K mainGlobals "tuple" = some none)
    (z16 : PySem.W.nsIn K mainGlobals "zip" = some none) :
    ∃ fd : FuncData, (∀ (s : Shared) (v : Value), BindsTo s fd ⟨[v], []⟩ [("_law_script", v)]) ∧ ∀ base : Heap, K.In base → base.Ns mainGlobals mg → FnOk l.prog w K mg base CX0 11 fa fd ["_law_script"] (spA K 1 g_law) := by
  have e := hfa.symm.trans (PySem.W.mg_of X G a39)
  cases e
  exact ⟨PySem.W.fnOf "law" "law" (defArgs s_law) (defBody s_law) (defScope s_law) .none kV39 dc39 pm39 an39 cd39 ct39, fun s v => .of_eq rfl, fun base _ _ => ok_law { f_own_copy := _, fd_own_copy := _, F_own_copy := fun_mk (st := s_own_copy) l0 c0 k0, m_own_copy := PySem.W.mg_of X G a0, b_own_copy := (fun_mk (st := s_own_copy) l0 c0 k0).binds (ps := ["thing"]) (fun _ _ _ _ _ _ us hl => (by rcases us with _ | ⟨_, _ | ⟨_, _⟩⟩ <;> first | rfl | cases hl)), f_mirrored := _, fd_mirrored := _, F_mirrored := fun_mk (st := s_mirrored) l1 c1 k1, m_mirrored := PySem.W.mg_of X G a1, b_mirrored := (fun_mk (st := s_mirrored) l1 c1 k1).binds (ps := ["dune"]) (fun _ _ _ _ _ _ us hl => (by rcases us with _ | ⟨_, _ | ⟨_, _⟩⟩ <;> first | rfl | cases hl)), f_upside := _, fd_upside := _, F_upside := fun_mk (st := s_upside) l2 c2 k2, m_upside := PySem.W.mg_of X G a2, b_upside := (fun_mk (st := s_upside) l2 c2 k2).binds (ps := ["dune"]) (fun _ _ _ _ _ _ us hl => (by rcases us with _ | ⟨_, _ | ⟨_, _⟩⟩ <;> first | rfl | cases hl)), f_handed := _, fd_handed := _, F_handed := fun_mk (st := s_handed) l3 c3 k3, m_handed := PySem.W.mg_of X G a3, b_handed := (fun_mk (st := s_handed) l3 c3 k3).binds (ps := ["dune", "post", "by"]) (fun _ _ _ _ _ _ us hl => (by rcases us with _ | ⟨_, _ | ⟨_, _ | ⟨_, _ | ⟨_, _⟩⟩⟩⟩ <;> first | rfl | cases hl)), f_almanac_of := _, fd_almanac_of := _, F_almanac_of := fun_mk (st := s_almanac_of) l4 c4 k4, m_almanac_of := PySem.W.mg_of X G a4, b_almanac_of := (fun_mk (st := s_almanac_of) l4 c4 k4).binds (ps := ["cuts", "fills", "order"]) (fun _ _ _ _ _ _ us hl => (by rcases us with _ | ⟨_, _ | ⟨_, _ | ⟨_, _ | ⟨_, _⟩⟩⟩⟩ <;> first | rfl | cases hl)), f_are_contrary := _, fd_are_contrary := _, F_are_contrary := fun_mk (st := s_are_contrary) l5 c5 k5, m_are_contrary := PySem.W.mg_of X G a5, b_are_contrary := (fun_mk (st := s_are_contrary) l5 c5 k5).binds (ps := ["one", "other"]) (fun _ _ _ _ _ _ us hl => (by rcases us with _ | ⟨_, _ | ⟨_, _ | ⟨_, _⟩⟩⟩ <;> first | rfl | cases hl)), f_first_clash := _, fd_first_clash := _, F_first_clash := fun_mk (st := s_first_clash) l6 c6 k6, m_first_clash := PySem.W.mg_of X G a6, b_first_clash := (fun_mk (st := s_first_clash) l6 c6 k6).binds (ps := ["words"]) (fun _ _ _ _ _ _ us hl => (by rcases us with _ | ⟨_, _ | ⟨_, _⟩⟩ <;> first | rfl | cases hl)), f_refuse_clash := _, fd_refuse_clash := _, F_refuse_clash := fun_mk (st := s_refuse_clash) l7 c7 k7, m_refuse_clash := PySem.W.mg_of X G a7, b_refuse_clash := (fun_mk (st := s_refuse_clash) l7 c7 k7).binds (ps := ["words"]) (fun _ _ _ _ _ _ us hl => (by rcases us with _ | ⟨_, _ | ⟨_, _⟩⟩ <;> first | rfl | cases hl)), f_least_ahead := _, fd_least_ahead := _, F_least_ahead := fun_mk (st := s_least_ahead) l8 c8 k8, m_least_ahead := PySem.W.mg_of X G a8, b_least_ahead := (fun_mk (st := s_least_ahead) l8 c8 k8).binds (ps := ["words", "fill"]) (fun _ _ _ _ _ _ us hl => (by rcases us with _ | ⟨_, _ | ⟨_, _ | ⟨_, _⟩⟩⟩ <;> first | rfl | cases hl)), f_most_ahead := _, fd_most_ahead := _, F_most_ahead := fun_mk (st := s_most_ahead) l9 c9 k9, m_most_ahead := PySem.W.mg_of X G a9, b_most_ahead := (fun_mk (st := s_most_ahead) l9 c9 k9).binds (ps := ["cuts", "words", "fill"]) (fun _ _ _ _ _ _ us hl => (by rcases us with _ | ⟨_, _ | ⟨_, _ | ⟨_, _ | ⟨_, _⟩⟩⟩⟩ <;> first | rfl | cases hl)), f_bounds := _, fd_bounds := _, F_bounds := fun_mk (st := s_bounds) l10 c10 k10, m_bounds := PySem.W.mg_of X G a10, b_bounds := (fun_mk (st := s_bounds) l10 c10 k10).binds (ps := ["cuts", "fills", "words"]) (fun _ _ _ _ _ _ us hl => (by rcases us with _ | ⟨_, _ | ⟨_, _ | ⟨_, _ | ⟨_, _⟩⟩⟩⟩ <;> first | rfl | cases hl)), f_ways_on := _, fd_ways_on := _, F_ways_on := fun_mk (st := s_ways_on) l11 c11 k11, m_ways_on := PySem.W.mg_of X G a11, b_ways_on := (fun_mk (st := s_ways_on) l11 c11 k11).binds (ps := ["cuts", "fills", "words"]) (fun _ _ _ _ _ _ us hl => (by rcases us with _ | ⟨_, _ | ⟨_, _ | ⟨_, _ | ⟨_, _⟩⟩⟩⟩ <;> first | rfl | cases hl)), f_ways_ahead := _, fd_ways_ahead := _, F_ways_ahead := fun_mk (st := s_ways_ahead) l12 c12 k12, m_ways_ahead := PySem.W.mg_of X G a12, b_ways_ahead := (fun_mk (st := s_ways_ahead) l12 c12 k12).binds (ps := ["later", "least", "most"]) (fun _ _ _ _ _ _ us hl => (by rcases us with _ | ⟨_, _ | ⟨_, _ | ⟨_, _ | ⟨_, _⟩⟩⟩⟩ <;> first | rfl | cases hl)), f_orders_many := _, fd_orders_many := _, F_orders_many := fun_mk (st := s_orders_many) l13 c13 k13, m_orders_many := PySem.W.mg_of X G a13, b_orders_many := (fun_mk (st := s_orders_many) l13 c13 k13).binds (ps := ["cuts", "fills", "words"]) (fun _ _ _ _ _ _ us hl => (by rcases us with _ | ⟨_, _ | ⟨_, _ | ⟨_, _ | ⟨_, _⟩⟩⟩⟩ <;> first | rfl | cases hl)), f_blown := _, fd_blown := _, F_blown := fun_mk (st := s_blown) l14 c14 k14, m_blown := PySem.W.mg_of X G a14, b_blown := (fun_mk (st := s_blown) l14 c14 k14).binds (ps := ["dune", "wind"]) (fun _ _ _ _ _ _ us hl => (by rcases us with _ | ⟨_, _ | ⟨_, _ | ⟨_, _⟩⟩⟩ <;> first | rfl | cases hl)), f_cut_to := _, fd_cut_to := _, F_cut_to := fun_mk (st := s_cut_to) l15 c15 k15, m_cut_to := PySem.W.mg_of X G a15, b_cut_to := (fun_mk (st := s_cut_to) l15 c15 k15).binds (ps := ["dune", "slope"]) (fun _ _ _ _ _ _ us hl => (by rcases us with _ | ⟨_, _ | ⟨_, _ | ⟨_, _⟩⟩⟩ <;> first | rfl | cases hl)), f_cut_onward := _, fd_cut_onward := _, F_cut_onward := fun_mk (st := s_cut_onward) l16 c16 k16, m_cut_onward := PySem.W.mg_of X G a16, b_cut_onward := (fun_mk (st := s_cut_onward) l16 c16 k16).binds (ps := ["dune", "slope"]) (fun _ _ _ _ _ _ us hl => (by rcases us with _ | ⟨_, _ | ⟨_, _ | ⟨_, _⟩⟩⟩ <;> first | rfl | cases hl)), f_is_hand := _, fd_is_hand := _, F_is_hand := fun_mk (st := s_is_hand) l17 c17 k17, m_is_hand := PySem.W.mg_of X G a17, b_is_hand := (fun_mk (st := s_is_hand) l17 c17 k17).binds (ps := ["entry"]) (fun _ _ _ _ _ _ us hl => (by rcases us with _ | ⟨_, _ | ⟨_, _⟩⟩ <;> first | rfl | cases hl)), f_done := _, fd_done := _, F_done := fun_mk (st := s_done) l18 c18 k18, m_done := PySem.W.mg_of X G a18, b_done := (fun_mk (st := s_done) l18 c18 k18).binds (ps := ["dune", "entries"]) (fun _ _ _ _ _ _ us hl => (by rcases us with _ | ⟨_, _ | ⟨_, _ | ⟨_, _⟩⟩⟩ <;> first | rfl | cases hl)), f_entries_with := _, fd_entries_with := _, F_entries_with := fun_mk (st := s_entries_with) l19 c19 k19, m_entries_with := PySem.W.mg_of X G a19, b_entries_with := (fun_mk (st := s_entries_with) l19 c19 k19).binds (ps := ["entries", "words"]) (fun _ _ _ _ _ _ us hl => (by rcases us with _ | ⟨_, _ | ⟨_, _ | ⟨_, _⟩⟩⟩ <;> first | rfl | cases hl)), f_slopes_between := _, fd_slopes_between := _, F_slopes_between := fun_mk (st := s_slopes_between) l20 c20 k20, m_slopes_between := PySem.W.mg_of X G a20, b_slopes_between := (fun_mk (st := s_slopes_between) l20 c20 k20).binds (ps := ["book"]) (fun _ _ _ _ _ _ us hl => (by rcases us with _ | ⟨_, _ | ⟨_, _⟩⟩ <;> first | rfl | cases hl)), f_same_hands := _, fd_same_hands := _, F_same_hands := fun_mk (st := s_same_hands) l21 c21 k21, m_same_hands := PySem.W.mg_of X G a21, b_same_hands := (fun_mk (st := s_same_hands) l21 c21 k21).binds (ps := ["cutter", "filler"]) (fun _ _ _ _ _ _ us hl => (by rcases us with _ | ⟨_, _ | ⟨_, _ | ⟨_, _⟩⟩⟩ <;> first | rfl | cases hl)), f_stretches := _, fd_stretches := _, F_stretches := fun_mk (st := s_stretches) l22 c22 k22, m_stretches := PySem.W.mg_of X G a22, b_stretches := (fun_mk (st := s_stretches) l22 c22 k22).binds (ps := ["cutter", "filler"]) (fun _ _ _ _ _ _ us hl => (by rcases us with _ | ⟨_, _ | ⟨_, _ | ⟨_, _⟩⟩⟩ <;> first | rfl | cases hl)), f_all_of_one_first := _, fd_all_of_one_first := _, F_all_of_one_first := fun_mk (st := s_all_of_one_first) l23 c23 k23, m_all_of_one_first := PySem.W.mg_of X G a23, b_all_of_one_first := (fun_mk (st := s_all_of_one_first) l23 c23 k23).binds (ps := ["parts", "word"]) (fun _ _ _ _ _ _ us hl => (by rcases us with _ | ⟨_, _ | ⟨_, _ | ⟨_, _⟩⟩⟩ <;> first | rfl | cases hl)), f_long_may := _, fd_long_may := _, F_long_may := fun_mk (st := s_long_may) l24 c24 k24, m_long_may := PySem.W.mg_of X G a24, b_long_may := (fun_mk (st := s_long_may) l24 c24 k24).binds (ps := ["dune", "cutter", "filler"]) (fun _ _ _ _ _ _ us hl => (by rcases us with _ | ⟨_, _ | ⟨_, _ | ⟨_, _ | ⟨_, _⟩⟩⟩⟩ <;> first | rfl | cases hl)), f_long_many := _, fd_long_many := _, F_long_many := fun_mk (st := s_long_many) l25 c25 k25, m_long_many := PySem.W.mg_of X G a25, b_long_many := (fun_mk (st := s_long_many) l25 c25 k25).binds (ps := ["cutter", "filler"]) (fun _ _ _ _ _ _ us hl => (by rcases us with _ | ⟨_, _ | ⟨_, _ | ⟨_, _⟩⟩⟩ <;> first | rfl | cases hl)), f__law_cell_at := _, fd__law_cell_at := _, F__law_cell_at := fun_mk (st := s__law_cell_at) l26 c26 k26, m__law_cell_at := PySem.W.mg_of X G a26, b__law_cell_at := (fun_mk (st := s__law_cell_at) l26 c26 k26).binds (ps := ["_law_script", "_law_k"]) (fun _ _ _ _ _ _ us hl => (by rcases us with _ | ⟨_, _ | ⟨_, _ | ⟨_, _⟩⟩⟩ <;> first | rfl | cases hl)), f__law_box := _, fd__law_box := _, F__law_box := fun_mk (st := s__law_box) l27 c27 k27, m__law_box := PySem.W.mg_of X G a27, b__law_box := (fun_mk (st := s__law_box) l27 c27 k27).binds (ps := ["_law_script", "_law_k"]) (fun _ _ _ _ _ _ us hl => (by rcases us with _ | ⟨_, _ | ⟨_, _ | ⟨_, _⟩⟩⟩ <;> first | rfl | cases hl)), f__law_take := _, fd__law_take := _, F__law_take := fun_mk (st := s__law_take) l28 c28 k28, m__law_take := PySem.W.mg_of X G a28, b__law_take := (fun_mk (st := s__law_take) l28 c28 k28).binds (ps := ["_law_box_here", "_law_size"]) (fun _ _ _ _ _ _ us hl => (by rcases us with _ | ⟨_, _ | ⟨_, _ | ⟨_, _⟩⟩⟩ <;> first | rfl | cases hl)), f__law_of := _, fd__law_of := _, F__law_of := fun_mk (st := s__law_of) l29 c29 k29, m__law_of := PySem.W.mg_of X G a29, b__law_of := (fun_mk (st := s__law_of) l29 c29 k29).binds (ps := ["_law_box_here", "_law_some"]) (fun _ _ _ _ _ _ us hl => (by rcases us with _ | ⟨_, _ | ⟨_, _ | ⟨_, _⟩⟩⟩ <;> first | rfl | cases hl)), f__law_same := _, fd__law_same := _, F__law_same := fun_mk (st := s__law_same) l30 c30 k30, m__law_same := PySem.W.mg_of X G a30, b__law_same := (fun_mk (st := s__law_same) l30 c30 k30).binds (ps := ["_law_told_here", "_law_due_here"]) (fun _ _ _ _ _ _ us hl => (by rcases us with _ | ⟨_, _ | ⟨_, _ | ⟨_, _⟩⟩⟩ <;> first | rfl | cases hl)), f__law_slope := _, fd__law_slope := _, F__law_slope := fun_mk (st := s__law_slope) l31 c31 k31, m__law_slope := PySem.W.mg_of X G a31, b__law_slope := (fun_mk (st := s__law_slope) l31 c31 k31).binds (ps := ["_law_box_here"]) (fun _ _ _ _ _ _ us hl => (by rcases us with _ | ⟨_, _ | ⟨_, _⟩⟩ <;> first | rfl | cases hl)), f__law_lists := _, fd__law_lists := _, F__law_lists := fun_mk (st := s__law_lists) l32 c32 k32, m__law_lists := PySem.W.mg_of X G a32, b__law_lists := (fun_mk (st := s__law_lists) l32 c32 k32).binds (ps := ["_law_thing"]) (fun _ _ _ _ _ _ us hl => (by rcases us with _ | ⟨_, _ | ⟨_, _⟩⟩ <;> first | rfl | cases hl)), f__law_entries := _, fd__law_entries := _, F__law_entries := fun_mk (st := s__law_entries) l33 c33 k33, m__law_entries := PySem.W.mg_of X G a33, b__law_entries := (fun_mk (st := s__law_entries) l33 c33 k33).binds (ps := ["_law_box_here", "_law_posts", "_law_size"]) (fun _ _ _ _ _ _ us hl => (by rcases us with _ | ⟨_, _ | ⟨_, _ | ⟨_, _ | ⟨_, _⟩⟩⟩⟩ <;> first | rfl | cases hl)), f__law_books_of := _, fd__law_books_of := _, F__law_books_of := fun_mk (st := s__law_books_of) l34 c34 k34, m__law_books_of := PySem.W.mg_of X G a34, b__law_books_of := (fun_mk (st := s__law_books_of) l34 c34 k34).binds (ps := ["_law_entries_here"]) (fun _ _ _ _ _ _ us hl => (by rcases us with _ | ⟨_, _ | ⟨_, _⟩⟩ <;> first | rfl | cases hl)), f__law_due := _, fd__law_due := _, F__law_due := fun_mk (st := s__law_due) l35 c35 k35, m__law_due := PySem.W.mg_of X G a35, b__law_due := (fun_mk (st := s__law_due) l35 c35 k35).binds (ps := ["_law_entries_here"]) (fun _ _ _ _ _ _ us hl => (by rcases us with _ | ⟨_, _ | ⟨_, _⟩⟩ <;> first | rfl | cases hl)), f__law_told := _, fd__law_told := _, F__law_told := fun_mk (st := s__law_told) l36 c36 k36, m__law_told := PySem.W.mg_of X G a36, b__law_told := (fun_mk (st := s__law_told) l36 c36 k36).binds (ps := ["_law_way", "_law_cutter", "_law_filler"]) (fun _ _ _ _ _ _ us hl => (by rcases us with _ | ⟨_, _ | ⟨_, _ | ⟨_, _ | ⟨_, _⟩⟩⟩⟩ <;> first | rfl | cases hl)), f__law_bent := _, fd__law_bent := _, F__law_bent := fun_mk (st := s__law_bent) l37 c37 k37, m__law_bent := PySem.W.mg_of X G a37, b__law_bent := (fun_mk (st := s__law_bent) l37 c37 k37).binds (ps := ["_law_box_here", "_law_book"]) (fun _ _ _ _ _ _ us hl => (by rcases us with _ | ⟨_, _ | ⟨_, _ | ⟨_, _⟩⟩⟩ <;> first | rfl | cases hl)), f__law_right := _, fd__law_right := _, F__law_right := fun_mk (st := s__law_right) l38 c38 k38, m__law_right := PySem.W.mg_of X G a38, b__law_right := (fun_mk (st := s__law_right) l38 c38 k38).binds (ps := ["_law_box_here"]) (fun _ _ _ _ _ _ us hl => (by rcases us with _ | ⟨_, _ | ⟨_, _⟩⟩ <;> first | rfl | cases hl)), f_law := _, fd_law := _, F_law := fun_mk (st := s_law) l39 c39 k39, m_law := PySem.W.mg_of X G a39, b_law := (fun_mk (st := s_law) l39 c39 k39).binds (ps := ["_law_script"]) (fun _ _ _ _ _ _ us hl => (by rcases us with _ | ⟨_, _ | ⟨_, _⟩⟩ <;> first | rfl | cases hl)), C_Astray := xC0, x_Astray := ⟨⟨xq0, xN0, xbs0, xsn0, xsub0, xab0, xcol0, xdd0, xm00, xm01, xm02, xm03, xm05, by unfold xtl; rw [(xb_value "Astray" (by decide +kernel))]; exact xl0⟩, xs0, xe0, xy0, xk0, ⟨xg0, xo0, xc0, xh, xt⟩, xa0, xf0, PySem.W.mg_of X G xa0⟩, fI_Astray := _, fdI_Astray := _, iC_Astray := xi0, tI_Astray := xw0, FI_Astray := fun_mk (st := si_Astray) xj0 xr0 xz0, bI_Astray := (fun_mk (st := si_Astray) xj0 xr0 xz0).binds (ps := ["self", "number"]) (fun _ _ _ _ _ _ us hl => (by rcases us with _ | ⟨_, _ | ⟨_, _ | ⟨_, _⟩⟩⟩ <;> first | rfl | cases hl)), vI_Astray := xv0, C_Clash := xC1, x_Clash := ⟨⟨xq1, xN1, xbs1, xsn1, xsub1, xab1, xcol1, xdd1, xm10, xm11, xm12, xm13, xm15, by unfold xtl; rw [(xb_value "Clash" (by decide +kernel))]; exact xl1⟩, xs1, xe1, xy1, xk1, ⟨xg1, xo1, xc1, xh, xt⟩, xa1, xf1, PySem.W.mg_of X G xa1⟩, C_NoPost := xC2, x_NoPost := ⟨⟨xq2, xN2, xbs2, xsn2, xsub2, xab2, xcol2, xdd2, xm20, xm21, xm22, xm23, xm25, by unfold xtl; rw [(xb_lookup "NoPost" (by decide +kernel))]; exact xl2⟩, xs2, xe2, xy2, xk2, ⟨xg2, xo2, xc2, xh, xt⟩, xa2, xf2, PySem.W.mg_of X G xa2⟩, fI_NoPost := _, fdI_NoPost := _, iC_NoPost := xi2, tI_NoPost := xw2, FI_NoPost := fun_mk (st := si_NoPost) xj2 xr2 xz2, bI_NoPost := (fun_mk (st := si_NoPost) xj2 xr2 xz2).binds (ps := ["self", "post"]) (fun _ _ _ _ _ _ us hl => (by rcases us with _ | ⟨_, _ | ⟨_, _ | ⟨_, _⟩⟩⟩ <;> first | rfl | cases hl)), vI_NoPost := xv2, z_LookupError := PySem.W.mg_none_of X G z0, z_ValueError := PySem.W.mg_none_of X G z1, z_abs := PySem.W.mg_none_of X G z2, z_all := PySem.W.mg_none_of X G z3, z_bool := PySem.W.mg_none_of X G z4, z_enumerate := PySem.W.mg_none_of X G z5, z_int := PySem.W.mg_none_of X G z6, z_isinstance := PySem.W.mg_none_of X G z7, z_len := PySem.W.mg_none_of X G z8, z_list := PySem.W.mg_none_of X G z9, z_max := PySem.W.mg_none_of X G z10, z_min := PySem.W.mg_none_of X G z11, z_range := PySem.W.mg_none_of X G z12, z_reversed := PySem.W.mg_none_of X G z13, z_str := PySem.W.mg_none_of X G z14, z_tuple := PySem.W.mg_none_of X G z15, z_zip := PySem.W.mg_none_of X G z16 }⟩
theorem law_sp (K : PySem.W.Frag) (H : Hp) (a : Addr) (ns : List Int) (hl : ns.length ≤ 63) (_ : Only H) (hS : SqL K H a (ns.map V.int)) : spA K 1 g_law [.ref a] H (fun v _ => v = .bl true) fun _ _ _ => False := by
  refine ⟨H, [.scr ns], fun c => c = .val (.bl true), rfl, .refl H, .cons (.scr hS) .nil, ⟨ns, rfl, hl, rfl⟩, fun v c F' H' u S e => ?_⟩
  subst e
  obtain ⟨v', h1, h2⟩ := S.val 0 (.bl true) rfl
  cases h1
  exact h2.blInv
end Pl
open PySem PySem.W PyProof.Rows
set_option maxHeartbeats 0 in
theorem PySem.Challenge.cw_dunebooks_k56_stretches_of_two_books_holds : PySem.Challenge.rw_dunebooks_k56_stretches_of_two_books.Holds := by
  w_on; o_law; k_head; (case hw => w_witness2)
  k_fill
  refine L2.walk_ofK (l := PySem.Challenge.rw_dunebooks_k56_stretches_of_two_books) (n := 63) (k := 11) (x := "_law_script") (CX := L2.CX0) (sp := fun K => Pl.spA K 1 Pl.g_law) rfl (by decide) rfl ⟨rfl, by decide, by decide⟩ (fun w h Y => PySem.W.kIn_of Y) ?F Pl.law_sp (fun _ _ _ _ h => h)
  case F =>
    intro w mg fa h KX G hmg
    refine' Pl.all_mk KX G hmg ?a0 ?l0 ?c0 ?k0 ?a1 ?l1 ?c1 ?k1 ?a2 ?l2 ?c2 ?k2 ?a3 ?l3 ?c3 ?k3 ?a4 ?l4 ?c4 ?k4 ?a5 ?l5 ?c5 ?k5 ?a6 ?l6 ?c6 ?k6 ?a7 ?l7 ?c7 ?k7 ?a8 ?l8 ?c8 ?k8 ?a9 ?l9 ?c9 ?k9 ?a10 ?l10 ?c10 ?k10 ?a11 ?l11 ?c11 ?k11 ?a12 ?l12 ?c12 ?k12 ?a13 ?l13 ?c13 ?k13 ?a14 ?l14 ?c14 ?k14 ?a15 ?l15 ?c15 ?k15 ?a16 ?l16 ?c16 ?k16 ?a17 ?l17 ?c17 ?k17 ?a18 ?l18 ?c18 ?k18 ?a19 ?l19 ?c19 ?k19 ?a20 ?l20 ?c20 ?k20 ?a21 ?l21 ?c21 ?k21 ?a22 ?l22 ?c22 ?k22 ?a23 ?l23 ?c23 ?k23 ?a24 ?l24 ?c24 ?k24 ?a25 ?l25 ?c25 ?k25 ?a26 ?l26 ?c26 ?k26 ?a27 ?l27 ?c27 ?k27 ?a28 ?l28 ?c28 ?k28 ?a29 ?l29 ?c29 ?k29 ?a30 ?l30 ?c30 ?k30 ?a31 ?l31 ?c31 ?k31 ?a32 ?l32 ?c32 ?k32 ?a33 ?l33 ?c33 ?k33 ?a34 ?l34 ?c34 ?k34 ?a35 ?l35 ?c35 ?k35 ?a36 ?l36 ?c36 ?k36 ?a37 ?l37 ?c37 ?k37 ?a38 ?l38 ?c38 ?k38 ?a39 ?l39 ?c39 ?k39 ?xh ?xt ?xa0 ?xl0 ?xs0 ?xg0 ?xo0 ?xc0 ?xf0 ?xk0 ?xe0 ?xy0 ?xi0 ?xw0 ?xj0 ?xr0 ?xz0 ?xv0 ?xa1 ?xl1 ?xs1 ?xg1 ?xo1 ?xc1 ?xf1 ?xk1 ?xe1 ?xy1 ?xa2 ?xl2 ?xs2 ?xg2 ?xo2 ?xc2 ?xf2 ?xk2 ?xe2 ?xy2 ?xi2 ?xw2 ?xj2 ?xr2 ?xz2 ?xv2 ?z0 ?z1 ?z2 ?z3 ?z4 ?z5 ?z6 ?z7 ?z8 ?z9 ?z10 ?z11 ?z12 ?z13 ?z14 ?z15 ?z16
    (case a0 => k_is); (case l0 => k_is); (case c0 => k_is); (case k0 => k_is); (case a1 => k_is); (case l1 => k_is); (case c1 => k_is); (case k1 => k_is); (case a2 => k_is); (case l2 => k_is); (case c2 => k_is); (case k2 => k_is); (case a3 => k_is); (case l3 => k_is); (case c3 => k_is); (case k3 => k_is); (case a4 => k_is); (case l4 => k_is); (case c4 => k_is); (case k4 => k_is); (case a5 => k_is); (case l5 => k_is); (case c5 => k_is); (case k5 => k_is); (case a6 => k_is); (case l6 => k_is); (case c6 => k_is); (case k6 => k_is); (case a7 => k_is); (case l7 => k_is); (case c7 => k_is); (case k7 => k_is); (case a8 => k_is); (case l8 => k_is); (case c8 => k_is); (case k8 => k_is); (case a9 => k_is); (case l9 => k_is); (case c9 => k_is); (case k9 => k_is); (case a10 => k_is); (case l10 => k_is); (case c10 => k_is); (case k10 => k_is); (case a11 => k_is); (case l11 => k_is); (case c11 => k_is); (case k11 => k_is); (case a12 => k_is); (case l12 => k_is); (case c12 => k_is); (case k12 => k_is); (case a13 => k_is); (case l13 => k_is); (case c13 => k_is); (case k13 => k_is); (case a14 => k_is); (case l14 => k_is); (case c14 => k_is); (case k14 => k_is); (case a15 => k_is); (case l15 => k_is); (case c15 => k_is); (case k15 => k_is); (case a16 => k_is); (case l16 => k_is); (case c16 => k_is); (case k16 => k_is); (case a17 => k_is); (case l17 => k_is); (case c17 => k_is); (case k17 => k_is); (case a18 => k_is); (case l18 => k_is); (case c18 => k_is); (case k18 => k_is); (case a19 => k_is); (case l19 => k_is); (case c19 => k_is); (case k19 => k_is); (case a20 => k_is); (case l20 => k_is); (case c20 => k_is); (case k20 => k_is); (case a21 => k_is); (case l21 => k_is); (case c21 => k_is); (case k21 => k_is); (case a22 => k_is); (case l22 => k_is); (case c22 => k_is); (case k22 => k_is); (case a23 => k_is); (case l23 => k_is); (case c23 => k_is); (case k23 => k_is); (case a24 => k_is); (case l24 => k_is); (case c24 => k_is); (case k24 => k_is); (case a25 => k_is); (case l25 => k_is); (case c25 => k_is); (case k25 => k_is); (case a26 => k_is); (case l26 => k_is); (case c26 => k_is); (case k26 => k_is); (case a27 => k_is); (case l27 => k_is); (case c27 => k_is); (case k27 => k_is); (case a28 => k_is); (case l28 => k_is); (case c28 => k_is); (case k28 => k_is); (case a29 => k_is); (case l29 => k_is); (case c29 => k_is); (case k29 => k_is); (case a30 => k_is); (case l30 => k_is); (case c30 => k_is); (case k30 => k_is); (case a31 => k_is); (case l31 => k_is); (case c31 => k_is); (case k31 => k_is); (case a32 => k_is); (case l32 => k_is); (case c32 => k_is); (case k32 => k_is); (case a33 => k_is); (case l33 => k_is); (case c33 => k_is); (case k33 => k_is); (case a34 => k_is); (case l34 => k_is); (case c34 => k_is); (case k34 => k_is); (case a35 => k_is); (case l35 => k_is); (case c35 => k_is); (case k35 => k_is); (case a36 => k_is); (case l36 => k_is); (case c36 => k_is); (case k36 => k_is); (case a37 => k_is); (case l37 => k_is); (case c37 => k_is); (case k37 => k_is); (case a38 => k_is); (case l38 => k_is); (case c38 => k_is); (case k38 => k_is); (case a39 => k_is); (case l39 => k_is); (case c39 => k_is); (case k39 => k_is); (case xh => k_is); (case xt => k_is); (case xa0 => k_is); (case xl0 => k_is); (case xs0 => k_is); (case xg0 => k_is); (case xo0 => k_is); (case xc0 => k_is); (case xf0 => k_is); (case xk0 => k_is); (case xe0 => k_is); (case xy0 => k_is); (case xi0 => k_is); (case xw0 => k_is); (case xj0 => k_is); (case xr0 => k_is); (case xz0 => k_is); (case xv0 => k_is); (case xa1 => k_is); (case xl1 => k_is); (case xs1 => k_is); (case xg1 => k_is); (case xo1 => k_is); (case xc1 => k_is); (case xf1 => k_is); (case xk1 => k_is); (case xe1 => k_is); (case xy1 => k_is); (case xa2 => k_is); (case xl2 => k_is); (case xs2 => k_is); (case xg2 => k_is); (case xo2 => k_is); (case xc2 => k_is); (case xf2 => k_is); (case xk2 => k_is); (case xe2 => k_is); (case xy2 => k_is); (case xi2 => k_is); (case xw2 => k_is); (case xj2 => k_is); (case xr2 => k_is); (case xz2 => k_is); (case xv2 => k_is); (case z0 => k_is); (case z1 => k_is); (case z2 => k_is); (case z3 => k_is); (case z4 => k_is); (case z5 => k_is); (case z6 => k_is); (case z7 => k_is); (case z8 => k_is); (case z9 => k_is); (case z10 => k_is); (case z11 => k_is); (case z12 => k_is); (case z13 => k_is); (case z14 => k_is); (case z15 => k_is); (case z16 => k_is)
