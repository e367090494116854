import PyProof.Rows.All
import Wide.All
import OpenK.AllK
import Wide.FinOn
import HandS.ExcInit
import KE.KExcInit
import KE.KExcIs
import HandS.ForMost
import HandS.Wide
import HandS.Zip
import HandS.Style
import HandS.IsInst
import HandS.Walk
import HandS.TupAny
import HandS.Defaults
import KE.DataMinMax
import KE.GoesNew
import HandS.NoneIn
import HandS.Deep
import HandS.More
import HandS.TupMul
import HandS.Conv
import KE.KTupSum
import HandS.Text
import HandS.Iter
import HandS.RevRange
import KE.GoesMore
import PyProof.StrBlock2
import PyProof.Rows.StrJoinRep
import HandS.Star
import HandS.CallSlots
import HandS.WordsExc
import HandS.ExcOwn
import PyProof.Rows.StrCountLaw
import PyProof.P3In
import PyProof.TwoTypesSub
import PyProof.ReprReads
import HandS.Ends
import PyProof.ReprRoads
import PyProof.ReprLen
import PyProof.Rows.StrCase
import HandS.Dict
import PySem.Challenge.RW_dunebooks_k43_words_that_are_enough
set_option Elab.async false
set_option linter.all false
set_option maxRecDepth 100000
namespace PySem
namespace OEY
open PySem.W PySem.Calls PyProof.Rows PySem.HandSPX
open Builtin Builtin.ObjectAttr
structure Over (B newId initId : String) (tl : List Value) : Prop where
  facts : ExcBaseFacts B newId initId tl
  past : ∀ self, refuseLoop self "__setattr__" tl = pure ()
  obj : tl.contains (.type "object") = true
  kind : typeOf (.type B) = pure (.type "type")
  boot : bootBuiltins (Str.ofString B) = some (.type B)
  solid : Manifest.isStub B = false
  given : handedIn (.builtin initId) = true
theorem over_value : Over "ValueError" "ValueError.__new__" "ValueError.__init__" [.type "ValueError", .type "Exception", .type "BaseException", .type "object"] :=
  ⟨F.excBase_ValueError, F.store_ValueError.passes, by decide +kernel, by kernel_rfl, by decide +kernel, by decide +kernel, by decide +kernel⟩
theorem over_lookup : Over "LookupError" "LookupError.__new__" "LookupError.__init__" [.type "LookupError", .type "Exception", .type "BaseException", .type "object"] :=
  ⟨F.excBase_LookupError, F.store_LookupError.passes, by decide +kernel, by kernel_rfl, by decide +kernel, by decide +kernel, by decide +kernel⟩
theorem over_overflow : Over "OverflowError" "OverflowError.__new__" "OverflowError.__init__" [.type "OverflowError", .type "ArithmeticError", .type "Exception", .type "BaseException", .type "object"] :=
  ⟨F.excBase_OverflowError, F.store_OverflowError.passes, by decide +kernel, by kernel_rfl, by decide +kernel, by decide +kernel, by decide +kernel⟩
section
variable {prog : Program} {w : World} {A : Around} {R : Result → Shared → Prop} {hp : Heap} {g : Array GenState} {d : Drawn} {t : Nat} {os : OsState}
theorem first_field {K : W.Frag} {field : Str} {tk : Tok} {y : Value} {x C : Addr} {row : Array Value} {cd : ClassData} {tl : List Value} (KI : K.In hp) (there : hp.get? x = some { cls := .ref C, data := .fields row }) (hcd : W.clsIn K C = some cd)
    (past : ∀ self, refuseLoop self "__setattr__" tl = pure ()) (obj : tl.contains (.type "object") = true) (hm : cd.mro = .ref C :: tl) (hh : cd.hasDict = true) (ha : W.findIn K (.ref C) field = some none)
    (fin : ∀ h' tk' dx, (∀ b o, b ≠ x → hp.get? b = some o → h'.get? b = some o) → hp.objs.size ≤ dx → dx ≠ x → h'.get? x = some { cls := .ref C, dict := some dx, data := .fields row } →
      h'.Ns1 dx (fun z => if z = field then some y else none) → R (.ok (.ret .none)) ⟨h', g, d, tk', os⟩) :
    codeAny (model prog w) A (.call (.builtin "object.__setattr__") ⟨[.ref x, .str field tk, y], []⟩) R ⟨hp, g, d, t, os⟩ := by
  have J : W.InstAt hp x { cls := .ref C, data := .fields row } C none := ⟨there, rfl, rfl, trivial⟩
  have far : x ≠ hp.objs.size := Nat.ne_of_lt (Heap.lt_size there)
  have hob : cd.mro.contains (.type "object") = true := by rw [hm, List.contains_cons, obj, Bool.or_true]
  have hne : cd.mro.isEmpty = false := by rw [hm]; rfl
  have isO : W.Looks (model prog w) hp (isInstance (.ref x) (.type "object")) true := J.type.andThen (W.looks_mroIn KI (by unfold W.mroIn; rw [hcd, Option.bind_some, if_neg (by rw [hne]; decide), hob]))
  refine codeAny_call_builtin F.store_object.slot.plain F.store_object.entry (@W.check_slot (model prog w) _ _ ⟨hp, g, d, t, os⟩ "object.__setattr__" "object" "__setattr__" (.ref x) [.str field tk, y] [] _ F.store_object.kind F.store_object.split isO (F.store_object.args (.ref x) (.str field tk) y) ?_)
  have lm : W.Looks (model prog w) hp (mroOf (.ref C)) cd.mro := (W.looks_clsIn KI hcd).andThen .now
  have ls : W.Looks (model prog w) hp (storeTaker? none) none := .now
  have lc : W.Looks (model prog w) hp (classData C) cd := W.looks_clsIn KI hcd
  have go : refuseLoop (.ref x) "__setattr__" cd.mro = pure () := by rw [hm, refuseLoop_ref]; exact past _
  rw [W.osa_eq, refuse_eq]
  refine wpAny_bind (wpAny_bind (J.type.at (wpAny_bind (lm.at ?_))))
  rw [go]
  refine wpAny_pure (wpAny_bind (J.type.at (wpAny_bind ((W.looks_findIn KI ha).at (wpAny_bind (ls.at ?_))))))
  show wpAny _ _ (storeInOwnDict (.ref x) (.ref C) (.str field tk) field y false) _ _ _
  obtain ⟨nm, bs, mro, ns, qn, hd, sn, sb, ab, col, del⟩ := cd
  dsimp only at hh
  subst hh
  unfold storeInOwnDict ownDictForStores
  repeat (first | with_reducible refine store_in_new ?_ ?_ | with_reducible refine wpAny_loadPart_at there ?_ | with_reducible refine lc.at ?_ | wp_step)
  · exact ⟨_, #[], _, (Heap.get?_update_ne _ _ _ _ far.symm).trans (Heap.get?_push_at rfl rfl), rfl, fun e he => absurd he (by simp), fun _ => rfl⟩
  · intro h' tk' hn' hs
    have pushed : (hp.push { cls := .type "dict", data := .dict #[] }).get? x = some { cls := .ref C, data := .fields row } := Heap.get?_push_of_some _ there
    refine fin h' tk' hp.objs.size (fun b o hb ho => ?_) (Nat.le_refl _) far.symm ?_ hn'
    · exact (hs.2 b (Nat.ne_of_lt (Heap.lt_size ho))).trans ((Heap.get?_update_ne _ _ _ _ hb).trans (Heap.get?_push_of_some _ ho))
    · exact (hs.2 x far).trans (Heap.get?_update_self _ pushed rfl)
end
end OEY
end PySem
namespace L2
open PySem PySem.Spec PyProof.Rows
structure OwnX (K : PySem.W.Frag) (C : Addr) (newId : String) (tl : List Value) : Prop where
  cls : ∃ nm q N bs sn sub ab col dd k0 k1 k2 k3 k5, K.lookup C = some (excClassObj nm q C N bs tl true sn sub ab col dd k0 k1 k2 k3 k5 newId)
  sa : PySem.W.findIn K (.ref C) "__setattr__" = some (some (.builtin "object.__setattr__"))
  exC : PySem.W.subIn K (.ref C) (.type "BaseException") = some true
  tyC : PySem.W.typeIn K (.ref C) = some (.type "type")
  kC : PySem.W.keepIn K (.ref C) = true
section
variable {X : Cx} {pins : List (Addr × Obj)} {σ : St} {H : Hp} {s : Shared} {a C dx : Addr} {f : Str} {y : V} {u : Value} {fs : List (Str × V)} {E : Value → Shared → Prop} {A : Around} {B newId initId : String} {tl : List Value}
theorem oy_store {Q : Unit → Shared → Prop} (O : PySem.OEY.Over B newId initId tl) (T : OwnX X.K C newId tl) (I : Inv X pins σ H s) (e : H a = some (exo a C none)) (hno : PySem.W.findIn X.K (.ref C) f = some none) (ry : RelV y u)
    (fin : ∀ dx s', H dx = none → dx ≠ a → Inv X pins σ (upd (upd H dx (exd dx [(f, y)])) a (exo a C (some dx))) s' → Q () s') : wpAny (model X.prog X.w) A (setAttr (.ref a) f u) Q E s := by
  obtain ⟨nm, q, N, bs, sn, sub, ab, col, dd, k0, k1, k2, k3, k5, hC⟩ := T.cls
  have known : PySem.W.clsIn X.K C = some { name := nm, bases := bs, mro := .ref C :: tl, ns := N, qualname := q, hasDict := true, slotNames := sn, subclasses := sub, abstract := ab, collection := col, hasDel := false } := by unfold PySem.W.clsIn; rw [hC] <;> rfl
  obtain ⟨t1, ho⟩ := exo_at I.hok e
  obtain ⟨hp, g, d, t, os⟩ := s
  refine PySem.W.set_plain I.kIn (ox := { cls := .ref C, dict := none, data := .fields #[.ref t1, .none, .none, .none, .bool false, .none] }) (od := none) ⟨ho, rfl, rfl, trivial⟩ T.sa ?_
  refine PySem.OEY.first_field I.kIn ho known O.past O.obj rfl rfl hno (fun h' tk' dx k dn dne hx hn => ?_)
  have free : H dx = none := I.hok.fresh dn
  have nd : ∀ {b : Addr} {o : Obj}, hp.get? b = some o → b ≠ dx := fun {b o} q => Nat.ne_of_lt (Nat.lt_of_lt_of_le (Heap.lt_size q) dn)
  have na : ∀ {b : Addr}, H b = none → b ≠ a := fun {b} n z => by rw [z, e] at n; cases n
  have Un1 : Un X.fs [] H (upd (upd H dx (exd dx [(f, y)])) a (exo a C (some dx))) hp h' := ⟨fun b o q n _ _ => k b o (na n) q, fun b o q n _ _ => ⟨o.slots, k b o (na n) q⟩, fun b o q n _ => by rw [upd_ne (na n), upd_ne (nd q)]; exact n, fun b o q _ => by
      by_cases hb : b = a
      · exact ⟨_, by rw [hb]; exact hx⟩
      · exact ⟨o, k b o hb q⟩, fun b xs q => by rw [upd_ne (at_ne e q exo_tup), upd_ne (ne_of_none q free)]; exact q, fun b o v q => by rw [upd_ne (at_ne e q exo_frz), upd_ne (ne_of_none q free)]; exact q,
      fun b ps q => ⟨#[], by rw [upd_ne (at_ne e q exo_tbl), upd_ne (ne_of_none q free), q]; simp⟩⟩
  refine fin dx _ free dne (I.un (t' := tk') Un1 fun b o q => ?_)
  by_cases hb : b = a
  · subst hb; rw [upd_same] at q; cases q; exact exo_ok hx
  · rw [upd_ne hb] at q
    by_cases hd : b = dx
    · subst hd; rw [upd_same] at q; cases q
      exact exd_ok hn (relO_put (fs := []) ry fun g => True.intro)
    · rw [upd_ne hd] at q
      refine (I.hok b o q).stay (fun c v hc z => k c v ?_ z) (fun c hc => ?_) fun c xs hc => ?_
      · rcases hc with hc | hc
        · rw [hc]; exact hb
        · exact at_ne e hc exo_own
      · rw [upd_ne (at_ne e hc exo_own), upd_ne (ne_of_none hc free)]; exact hc
      · rw [upd_ne (at_ne e hc exo_tup), upd_ne (ne_of_none hc free)]; exact hc
theorem oy_init {us : List Value} {Q : Value → Shared → Prop} (O : PySem.OEY.Over B newId initId tl) (T : OwnX X.K C newId tl) (I : Inv X pins σ H s) (e : H a = some (exo a C none)) (hl : us.length ≤ sizeLine) (fin : ∀ s', Inv X pins σ H s' → Q .none s') :
    wpAny (model X.prog X.w) A (call (.builtin initId) (.ref a :: us)) Q E s := by
  obtain ⟨nm, q, N, bs, sn, sub, ab, col, dd, k0, k1, k2, k3, k5, hC⟩ := T.cls
  obtain ⟨t1, ho⟩ := exo_at I.hok e
  obtain ⟨hp, g, d, t, os⟩ := s
  refine wpAny_call (PySem.HandSPX.init_base O.facts (fun _ => rfl) (I.kIn _ _ hC) ho hl fun h' t2 k hx => ?_)
  have J := I.write (t' := t) (x := a) (e := a) (o := exo a C none) (by rw [e]; exact True.intro) (.inl rfl) k ⟨_, hx⟩ (exo_ok hx)
  have same : upd H a (exo a C none) = H := funext fun b => by
    by_cases hb : b = a
    · rw [hb, upd_same, e]
    · rw [upd_ne hb]
  rw [same] at J
  exact fin _ J
end
def tOyI (K : PySem.W.Frag) (newId : String) (tl : List Value) (ta : TA) : TE := fun σ H Q => ta σ H fun vs H1 => ∃ (a C : Addr) (ws : List V), vs = .ref a :: ws ∧ ws.length ≤ 1000 ∧ OwnX K C newId tl ∧ H1 a = some (exo a C none) ∧ Q .non H1
def tOyS (K : PySem.W.Frag) (newId : String) (tl : List Value) (f : Str) (to te : TE) : TS := fun D σ H => te σ H fun y H1 => to σ H1 fun x H2 => ∃ a C : Addr, x = .ref a ∧ OwnX K C newId tl ∧ PySem.W.findIn K (.ref C) f = some none ∧
  H2 a = some (exo a C none) ∧ ∀ dx, H2 dx = none → dx ≠ a → D.nx σ (upd (upd H2 dx (exd dx [(f, y)])) a (exo a C (some dx)))
section
variable {X : Cx} {o e : Expr} {es : List Expr} {to te : TE} {ta : TA} {f : Str} {p p' p1 p2 pos : Pos} {B newId initId : String} {tl : List Value}
theorem pe_oyinit {pl : Sem Bool} (O : PySem.OEY.Over B newId initId tl) (hg : Gl X (Str.ofString B)) (hm : X.mg (Str.ofString B) = none) (vV : PySem.W.findCls X.K (.type B) (.type "type") "__init__" = some (.val (.builtin initId))) (ha : PA X (e :: es) ta)
    (hn : Str.ofString B ≠ "__name__" := by decide) (hdb : (Str.ofString B == ("__debug__" : Str)) = false := by decide)
    (hc : eval (.Call (.Attribute (.Name (Str.ofString B) p1) "__init__" p2) (e :: es) [] pos) X.env = (do
      let ov ← eval (.Name (Str.ofString B) p1) X.env
      standAt p2.atName
      let (f, first) ← holding [ov] (getMethod ov "__init__" pl)
      callWith pos f first (backTo pos (starEach (e :: es) X.env)) (backToKw pos (keywordEach [] X.env))) := by rfl)
    (he : starEach (e :: es) X.env = (false, eval e X.env) :: starEach es X.env := by rfl) (hpl : (backTo pos (starEach es X.env)).any (·.1) = false := by rfl) :
    PE X (.Call (.Attribute (.Name (Str.ofString B) p1) "__init__" p2) (e :: es) [] pos) (tOyI X.K newId tl ta) := by
  refine ⟨fun pins s σ H Q I h => PySem.W.methodCall_KW (ld_blt I hg hm O.boot ?_ hn hdb) hc⟩
  obtain ⟨m, fr⟩ := I.fr
  refine PySem.W.method_type fr I.ok.mod.kin O.kind O.solid vV O.given ?_
  show wpAny _ _ (callWith pos (Value.builtin initId) [] (backTo pos (starEach (e :: es) X.env)) []) _ _ _
  refine PyProof.Rows.callWith_method1 (thn (ha.run pos pins _ σ H _ (I.tok _) h) fun us s1 ⟨vs, H1, I1, r1, a, C, ws, ev, hl, T, ea, q⟩ => ?_) he hpl
  subst ev
  match us, r1 with
  | _ :: ur, .cons ra rw' =>
    cases ra
    exact oy_init O T I1 ea (by rw [← Paired.length rw', sizeLine_eq]; omega) fun s' J => ⟨.non, H1, J, rfl, q⟩
theorem ps_oyst (O : PySem.OEY.Over B newId initId tl) (ho : PE X o to) (he : PE X e te) (hs : swapsWith e (some (.Attribute o f p')) pos.line X.env = pure false := by rfl) : PS X (.Assign [.Attribute o f p'] e pos) (tOyS X.K newId tl f to te) :=
  ⟨fun pins s σ H D I h => plainObj_wpAny_Assign_Attribute (thn (he.run pins s σ H _ I h) fun v s1 ⟨y, H1, I1, r1, q1⟩ => thn (ho.run pins s1 σ H1 _ I1 q1) fun u s2 ⟨x, H2, I2, r2, a, C, ex, T, hno, ea, q⟩ => by
    subst ex
    cases r2
    exact oy_store O T I2 ea hno r1 fun dx s' n ne J => ⟨σ, _, J, q dx n ne⟩) hs⟩
theorem pmk_oy {CX : CXT} {x : Str} {C fI : Addr} {k : Nat} {fd : FuncData} {ps : List Str} {sp : Sp} {ds : List Value} {dvs : List V} (O : PySem.OEY.Over B newId initId tl) (T : OwnX X.K C newId tl) (iC : PySem.W.findIn X.K (.ref C) "__init__" = some (some (.ref fI))) (tI : PySem.W.typeIn X.K (.ref fI) = some (.type "function"))
    (F1 : FnOk X.prog X.w X.K X.mg X.base CX k fI fd ps sp) (hr : Room (k + 1) X.A) (hb : Binds X.K fd ps ds) (hd : Vals dvs ds) (hx : Passes CX X (fun _ _ _ => False)) (hg : Gl X x) (hm : X.mg x = some (.ref C)) (ha : PA X (e :: es) ta)
    (hdb : (x == ("__debug__" : Str)) = false := by decide) (he : starEach (e :: es) X.env = (false, eval e X.env) :: starEach es X.env := by rfl) (hpl : (backTo pos (starEach es X.env)).any (·.1) = false := by rfl) :
    PMk X (.Call (.Name x p) (e :: es) [] pos) (tMkO C sp dvs ta) := by
  intro pins s σ H Q I h
  obtain ⟨nm, q, N, bs, sn, sub, ab, col, dd, k0, k1, k2, k3, k5, hC⟩ := T.cls
  refine wpAny_Call_Name_kw (ld_glob I hg hm ?_ hdb)
  refine PySem.W.callWith_K (h₀ := X.base) I.ok.mod.kin T.kC (thn (ha.run pos pins s σ H _ I h) fun us s1 ⟨vs, H1, I1, r1, hz, q1⟩ => ⟨I1.kIn, ?_⟩) he hpl
  show wpAny _ _ (call (.ref C) us) _ _ _
  obtain ⟨hp, g, dr, tk, os⟩ := s1
  have up : hp.objs.size ≤ hp.objs.size + 1 := Nat.le_succ _
  have hn : H1 (hp.objs.size + 1) = none := I1.hok.fresh up
  have hq := q1 (hp.objs.size + 1) hn
  have kk : ∀ b o, hp.get? b = some o → ((hp.push (PySem.W.kdv_tup us)).push (PySem.HandSPX.excO C hp.objs.size)).get? b = some o := fun b o e => Heap.get?_push_of_some _ (Heap.get?_push_of_some _ e)
  have laid : ((hp.push (PySem.W.kdv_tup us)).push (PySem.HandSPX.excO C hp.objs.size)).get? (hp.objs.size + 1) = some (PySem.HandSPX.excO C hp.objs.size) := by heap_get
  have I2 : Inv X pins σ (upd H1 (hp.objs.size + 1) (exo (hp.objs.size + 1) C none)) ⟨(hp.push (PySem.W.kdv_tup us)).push (PySem.HandSPX.excO C hp.objs.size), g, dr, tk, os⟩ :=
    I1.laid (t' := tk) (a := hp.objs.size + 1) (o := exo (hp.objs.size + 1) C none) (h' := (hp.push (PySem.W.kdv_tup us)).push (PySem.HandSPX.excO C hp.objs.size)) kk up (exo_ok laid)
  have r2 : Vals (V.ref (hp.objs.size + 1) :: (vs ++ dvs)) (Value.ref (hp.objs.size + 1) :: (us ++ ds)) := .cons rfl (r1.append hd)
  have hl : (Value.ref (hp.objs.size + 1) :: us ++ ds).length = ps.length := r2.length.symm.trans (F1.len _ _ _ _ hq)
  have hus : us.length ≤ sizeLine := by rw [← Paired.length r1, sizeLine_eq]; omega
  refine wpAny_call (PySem.HandSPX.call_own O.facts (fun _ => rfl) (I1.kIn _ _ hC) (PySem.W.looks_findIn I1.kIn iC) (fun self => PySem.W.bind_fn I1.kIn self tI) hus
    (codeAny_mono (F1.run _ X.stack _ _ ⟨Value.ref (hp.objs.size + 1) :: us, []⟩ (Value.ref (hp.objs.size + 1) :: (us ++ ds)) _ _ (fun _ _ _ => False) (hr.make C us []) (I2.env0.make C us []) (hb _ (Value.ref (hp.objs.size + 1) :: us) I2.kIn hl) r2 hq) fun r s' hq' => ?_))
  match r, hq' with
  | .error er, hq' => exact hx pins σ _ _ er s' I2 hq'
  | .ok (.ret u), hq' =>
    obtain ⟨v, H2, os2, bare2, un2, hok2, rv, ev, d, fs, ea, ed, hd1, q2⟩ := hq'
    subst ev
    obtain ⟨h2, g2, d2, t2, os'⟩ := s'
    exact ⟨rv, mk_end (raises_own T.exC T.tyC) I1 up kk un2 hok2 os2 bare2 ea ed hd1 q2⟩
  | .ok .next, hq' => exact hq'.elim
  | .ok .brk, hq' => exact hq'.elim
  | .ok .cont, hq' => exact hq'.elim
end
end L2
namespace L2
open PySem PySem.Spec PyProof.Rows
def exk (a C dd : Addr) : HO := .ext fun h => ∃ (oe : Obj) (vs : Array Value), h.get? a = some oe ∧ oe.cls = .ref C ∧ oe.dict = some dd ∧ oe.data = .fields vs
def xfield (c : Str) : Str :=
  if c = "Clash" then "places" else if c = "Against" then "place" else if c = "Astray" then "number" else if c = "BadText" then "at" else if c = "BadRow" then "row" else
  if c = "NoPost" then "post" else if c = "NoOrder" then "number" else if c = "NoCore" then "core" else "many"
inductive XB where
  | v | l | o
def xb (c : Str) : XB := if c ∈ (["Clash", "Against", "Unlike", "Astray", "BadText", "BadRow"] : List Str) then .v else if c = "TooMany" then .o else .l
def XB.tl : XB → List String
  | .v => ["ValueError", "Exception", "BaseException", "object"]
  | .l => ["LookupError", "Exception", "BaseException", "object"]
  | .o => ["OverflowError", "ArithmeticError", "Exception", "BaseException", "object"]
def XB.nm : XB → String
  | .v => "ValueError"
  | .l => "LookupError"
  | .o => "OverflowError"
def XB.new : XB → String
  | .v => "ValueError.__new__"
  | .l => "LookupError.__new__"
  | .o => "OverflowError.__new__"
def XB.ini : XB → String
  | .v => "ValueError.__init__"
  | .l => "LookupError.__init__"
  | .o => "OverflowError.__init__"
theorem XB.over (b : XB) : PySem.OEY.Over b.nm b.new b.ini (b.tl.map Value.type) := by
  cases b
  · exact PySem.OEY.over_value
  · exact PySem.OEY.over_lookup
  · exact PySem.OEY.over_overflow
end L2
namespace Pl
open PySem PySem.Spec PyProof.Rows L2
inductive D where
  | non | bl (b : Bool) | int (i : Int) | str (x : Str) | lst (xs : List D) | tup (xs : List D) | scr (ns : List Int) | adr (a : Addr) | exc (c : Str) (y : D)
mutual
inductive Rep (K : PySem.W.Frag) (F : Hp) : V → D → Prop
  | non : Rep K F .non .non
  | bl (b : Bool) : Rep K F (.bl b) (.bl b)
  | int (i : Int) : Rep K F (.int i) (.int i)
  | str (x : Str) : Rep K F (.str x) (.str x)
  | lst {a : Addr} {vs : List V} {ds : List D} : F a = some (.lst vs) → Reps K F vs ds → Rep K F (.ref a) (.lst ds)
  | tup {a : Addr} {vs : List V} {ds : List D} : F a = some (.tup vs) → Reps K F vs ds → Rep K F (.ref a) (.tup ds)
  | scr {a : Addr} {ns : List Int} : SqL K F a (ns.map V.int) → Rep K F (.ref a) (.scr ns)
  | adr (a : Addr) : Rep K F (.ref a) (.adr a)
  | exc {a C dd : Addr} {v : V} {c : Str} {y : D} : PySem.W.nsIn K mainGlobals c = some (some (.ref C)) → F a = some (exk a C dd) → F dd = some (.xd [(xfield c, v)]) → Rep K F v y → Rep K F (.ref a) (.exc c y)
inductive Reps (K : PySem.W.Frag) (F : Hp) : List V → List D → Prop
  | nil : Reps K F [] []
  | cons {v : V} {vs : List V} {d : D} {ds : List D} : Rep K F v d → Reps K F vs ds → Reps K F (v :: vs) (d :: ds)
end
section
variable {K : PySem.W.Frag} {F F' : Hp}
mutual
theorem Rep.mono (e : Same F F') : ∀ {v : V} {d : D}, Rep K F v d → Rep K F' v d
  | _, _, .non => .non
  | _, _, .bl b => .bl b
  | _, _, .int i => .int i
  | _, _, .str x => .str x
  | _, _, .lst h r => .lst (e _ _ h) (Reps.mono e r)
  | _, _, .tup h r => .tup (e _ _ h) (Reps.mono e r)
  | _, _, .scr h => .scr (e.seq h)
  | _, _, .adr a => .adr a
  | _, _, .exc h1 h2 h3 r => .exc h1 (e _ _ h2) (e _ _ h3) (Rep.mono e r)
theorem Reps.mono (e : Same F F') : ∀ {vs : List V} {ds : List D}, Reps K F vs ds → Reps K F' vs ds
  | _, _, .nil => .nil
  | _, _, .cons h r => .cons (Rep.mono e h) (Reps.mono e r)
end
theorem Reps.length : ∀ {vs : List V} {ds : List D}, Reps K F vs ds → vs.length = ds.length
  | _, _, .nil => rfl
  | _, _, .cons _ r => by simp [Reps.length r]
theorem Reps.get : ∀ {vs : List V} {ds : List D} {i : Nat} {d : D}, Reps K F vs ds → ds[i]? = some d → ∃ v, vs[i]? = some v ∧ Rep K F v d
  | _, _, _, _, .nil, e => by simp at e
  | _, _, 0, _, .cons r _, e => by simp at e; subst e; exact ⟨_, rfl, r⟩
  | _, _, i + 1, d, .cons _ t, e => by
    obtain ⟨u, h1, h2⟩ := Reps.get (i := i) (d := d) t (by simpa using e)
    exact ⟨u, by simpa using h1, h2⟩
theorem Reps.append : ∀ {vs ws : List V} {ds es : List D}, Reps K F vs ds → Reps K F ws es → Reps K F (vs ++ ws) (ds ++ es)
  | _, _, _, _, .nil, s => s
  | _, _, _, _, .cons r t, s => .cons r (Reps.append t s)
theorem Reps.one {v : V} {d : D} (h : Rep K F v d) : Reps K F [v] [d] := .cons h .nil
theorem Reps.set {v : V} {d : D} (r : Rep K F v d) : ∀ {vs : List V} {ds : List D} (i : Nat), Reps K F vs ds → Reps K F (vs.set i v) (ds.set i d)
  | _, _, _, .nil => .nil
  | _, _, 0, .cons _ t => .cons r t
  | _, _, i + 1, .cons q t => .cons q (Reps.set r i t)
theorem Reps.drop : ∀ {vs : List V} {ds : List D} (n : Nat), Reps K F vs ds → Reps K F (vs.drop n) (ds.drop n)
  | _, _, 0, h => h
  | _, _, _ + 1, .nil => .nil
  | _, _, n + 1, .cons _ t => Reps.drop n t
theorem Reps.take : ∀ {vs : List V} {ds : List D} (n : Nat), Reps K F vs ds → Reps K F (vs.take n) (ds.take n)
  | _, _, 0, _ => .nil
  | _, _, _ + 1, .nil => .nil
  | _, _, n + 1, .cons r t => .cons r (Reps.take n t)
theorem Reps.reverse : ∀ {vs : List V} {ds : List D}, Reps K F vs ds → Reps K F vs.reverse ds.reverse
  | _, _, .nil => .nil
  | _, _, .cons r t => by
    rw [List.reverse_cons, List.reverse_cons]
    exact (Reps.reverse t).append (.one r)
theorem Reps.ints : ∀ {vs : List V} {ns : List Int}, Reps K F vs (ns.map D.int) → vs = ns.map V.int
  | _, [], .nil => rfl
  | _, n :: ns, .cons h t => by cases h; rw [Reps.ints t]; rfl
theorem Reps.ofInts : ∀ (ns : List Int), Reps K F (ns.map V.int) (ns.map D.int)
  | [] => .nil
  | n :: ns => .cons (.int n) (Reps.ofInts ns)
theorem Reps.bls : ∀ {vs : List V} {bs : List Bool}, Reps K F vs (bs.map D.bl) → vs = bs.map V.bl
  | _, [], .nil => rfl
  | _, n :: ns, .cons h t => by cases h; rw [Reps.bls t]; rfl
end
inductive Fd where
  | val (d : D) | own (a : Addr) (xs : List D)
inductive Sh where
  | dic (a : Addr) (ps : List (L2.Key × D)) | ins (a C dx : Addr) (fs : List (Str × Fd))
  | dicL (a : Addr) (o : Obj) (kvs : List (L2.Key × V)) (ps : List (L2.Key × D))
inductive Cell where
  | val (d : D) | own (a : Addr) (xs : List D) | box (s : Sh)
abbrev Ro := List (Option Cell)
def KvR (K : PySem.W.Frag) (F : Hp) : List (L2.Key × V) → List (L2.Key × D) → Prop
  | [], [] => True
  | p :: ps, q :: qs => p.1 = q.1 ∧ Rep K F p.2 q.2 ∧ KvR K F ps qs
  | _, _ => False
def Fd.foot : Fd → List Addr
  | .val _ => []
  | .own a _ => [a]
def Fd.At (K : PySem.W.Frag) (F H : Hp) (v : V) : Fd → Prop
  | .val d => Rep K F v d
  | .own a xs => v = .ref a ∧ ∃ vs, H a = some (.lst vs) ∧ Reps K F vs xs
def FsR (K : PySem.W.Frag) (F H : Hp) : List (Str × V) → List (Str × Fd) → Prop
  | [], [] => True
  | p :: ps, q :: qs => p.1 = q.1 ∧ q.2.At K F H p.2 ∧ FsR K F H ps qs
  | _, _ => False
def fsFoot (fs : List (Str × Fd)) : List Addr := fs.flatMap fun p => p.2.foot
def Sh.root : Sh → Addr
  | .dic a _ => a
  | .ins a _ _ _ => a
  | .dicL a _ _ _ => a
def Sh.foot : Sh → List Addr
  | .dic a _ => [a]
  | .ins a _ dx fs => a :: dx :: fsFoot fs
  | .dicL a _ _ _ => [a]
def Sh.At (K : PySem.W.Frag) (F H : Hp) : Sh → Prop
  | .dic a ps => ∃ kvs, H a = some (.dK kvs) ∧ KvR K F kvs ps
  | .ins a C dx fs => (fsFoot fs).Nodup ∧ ∃ vs, H a = some (.ins C dx vs) ∧ H dx = some (.own a) ∧ FsR K F H vs fs
  | .dicL a o kvs ps => H a = some (.frz o (.dK kvs)) ∧ KvR K F kvs ps
theorem KvR.mono {K : PySem.W.Frag} {F F' : Hp} (sm : Same F F') : ∀ {kvs : List (L2.Key × V)} {ps : List (L2.Key × D)}, KvR K F kvs ps → KvR K F' kvs ps
  | [], [], _ => trivial
  | _ :: _, _ :: _, h => ⟨h.1, h.2.1.mono sm, KvR.mono sm h.2.2⟩
  | [], _ :: _, h => h.elim
  | _ :: _, [], h => h.elim
theorem FsR.mono {K : PySem.W.Frag} {F F' H H' : Hp} (sm : Same F F') : ∀ {vs : List (Str × V)} {fs : List (Str × Fd)}, (∀ p ∈ fsFoot fs, H' p = H p) → FsR K F H vs fs → FsR K F' H' vs fs
  | [], [], _, _ => trivial
  | (x, v) :: vs, (y, .val d) :: fs, e, h => ⟨h.1, h.2.1.mono sm, FsR.mono sm e h.2.2⟩
  | (x, v) :: vs, (y, .own a xs) :: fs, e, h => ⟨h.1, by
    obtain ⟨h1, ws, h2, h3⟩ := h.2.1
    exact ⟨h1, ws, by rw [e a (List.mem_cons_self)]; exact h2, h3.mono sm⟩, FsR.mono sm (fun p m => e p (List.mem_cons_of_mem _ m)) h.2.2⟩
  | [], _ :: _, _, h => h.elim
  | _ :: _, [], _, h => h.elim
theorem FsR.live {K : PySem.W.Frag} {F H : Hp} : ∀ {vs : List (Str × V)} {fs : List (Str × Fd)}, FsR K F H vs fs → ∀ p ∈ fsFoot fs, ∃ o, H p = some o
  | [], [], _, p, m => by cases m
  | (x, v) :: vs, (y, .val d) :: fs, h, p, m => FsR.live h.2.2 p m
  | (x, v) :: vs, (y, .own a xs) :: fs, h, p, m => by
    have m : p ∈ a :: fsFoot fs := m
    rcases List.mem_cons.mp m with rfl | m
    · obtain ⟨h1, ws, h2, h3⟩ := h.2.1
      exact ⟨_, h2⟩
    · exact FsR.live h.2.2 p m
  | [], _ :: _, h, _, _ => h.elim
  | _ :: _, [], h, _, _ => h.elim
theorem Sh.At.mono {K : PySem.W.Frag} {F F' H H' : Hp} {s : Sh} (h : s.At K F H) (sm : Same F F') (e : ∀ p ∈ s.foot, H' p = H p) : s.At K F' H' := by
  cases s with
  | dic a ps =>
    obtain ⟨kvs, h1, h2⟩ := h
    exact ⟨kvs, by rw [e a (by simp [Sh.foot])]; exact h1, h2.mono sm⟩
  | ins a C dx fs =>
    obtain ⟨n, vs, h1, h2, h3⟩ := h
    exact ⟨n, vs, by rw [e a (by simp [Sh.foot])]; exact h1, by rw [e dx (by simp [Sh.foot])]; exact h2, h3.mono sm fun p m => e p (by simp [Sh.foot, m])⟩
  | dicL a o kvs ps => exact ⟨by rw [e a (by simp [Sh.foot])]; exact h.1, h.2.mono sm⟩
theorem Sh.At.live {K : PySem.W.Frag} {F H : Hp} {s : Sh} (h : s.At K F H) {p : Addr} (m : p ∈ s.foot) : ∃ o, H p = some o := by
  cases s with
  | dic a ps =>
    obtain ⟨kvs, h1, h2⟩ := h
    rw [List.mem_singleton.mp m]; exact ⟨_, h1⟩
  | ins a C dx fs =>
    obtain ⟨n, vs, h1, h2, h3⟩ := h
    have m : p ∈ a :: dx :: fsFoot fs := m
    rcases List.mem_cons.mp m with rfl | m
    · exact ⟨_, h1⟩
    rcases List.mem_cons.mp m with rfl | m
    · exact ⟨_, h2⟩
    · exact h3.live p m
  | dicL a o kvs ps => rw [List.mem_singleton.mp m]; exact ⟨_, h.1⟩
def InBox (ρ : Ro) (p : Addr) : Prop := ∃ (i : Nat) (s : Sh), ρ[i]? = some (some (.box s)) ∧ p ∈ s.foot
structure BxOk (K : PySem.W.Frag) (F G H : Hp) (σ : L2.St) (ρ : Ro) : Prop where
  box : ∀ (i : Nat) (s : Sh), ρ[i]? = some (some (.box s)) → σ[i]? = some (some (.ref s.root)) ∧ (∀ p ∈ s.foot, F p = none ∧ G p = none) ∧ s.At K F H
  bb : ∀ (i j : Nat) (s t : Sh) (p : Addr), ρ[i]? = some (some (.box s)) → ρ[j]? = some (some (.box t)) → p ∈ s.foot → p ∈ t.foot → i = j
  bo : ∀ (j : Nat) (a : Addr) (xs : List D), ρ[j]? = some (some (.own a xs)) → ¬ InBox ρ a
section
variable {K : PySem.W.Frag} {F F' G G' H H' : Hp} {σ σ' : L2.St} {ρ ρ' : Ro}
theorem BxOk.to (B : BxOk K F G H σ ρ) (hs : Same F F') (hp : ∀ p, InBox ρ p → F' p = none ∧ G' p = none ∧ H' p = H p) (hb : ∀ (i : Nat) (s : Sh), ρ'[i]? = some (some (.box s)) → ρ[i]? = some (some (.box s)) ∧ σ'[i]? = σ[i]?)
    (ho : ∀ (j : Nat) (a : Addr) (xs : List D), ρ'[j]? = some (some (.own a xs)) → (∃ (k : Nat) (ys : List D), ρ[k]? = some (some (.own a ys))) ∨ ¬ InBox ρ a) : BxOk K F' G' H' σ' ρ' := by
  refine ⟨fun i s q => ?_, fun i j s t p q1 q2 m1 m2 => B.bb i j s t p (hb i s q1).1 (hb j t q2).1 m1 m2, fun j a xs q m => ?_⟩
  · obtain ⟨h1, h2⟩ := hb i s q
    obtain ⟨g1, g2, g3⟩ := B.box i s h1
    exact ⟨h2.trans g1, fun p m => ⟨(hp p ⟨i, s, h1, m⟩).1, (hp p ⟨i, s, h1, m⟩).2.1⟩, g3.mono hs fun p m => (hp p ⟨i, s, h1, m⟩).2.2⟩
  · have n : ¬ InBox ρ a := (ho j a xs q).elim (fun ⟨k, ys, e⟩ => B.bo k a ys e) id
    obtain ⟨i, s, h1, h2⟩ := m
    exact n ⟨i, s, (hb i s h1).1, h2⟩
theorem BxOk.free (B : BxOk K F G H σ ρ) {p : Addr} (m : InBox ρ p) : F p = none ∧ G p = none ∧ ∃ o, H p = some o := by
  obtain ⟨i, s, h1, h2⟩ := m
  obtain ⟨g1, g2, g3⟩ := B.box i s h1
  exact ⟨(g2 p h2).1, (g2 p h2).2, g3.live h2⟩
theorem BxOk.apart (B : BxOk K F G H σ ρ) {p a : Addr} {j : Nat} {xs : List D} (m : InBox ρ p) (e : ρ[j]? = some (some (.own a xs))) : p ≠ a := fun z => by
  subst z
  exact B.bo j _ xs e m
theorem BxOk.heap (B : BxOk K F G H σ ρ) (hs : Same F F') (hp : ∀ p, InBox ρ p → F' p = none ∧ G' p = none ∧ H' p = H p) : BxOk K F' G' H' σ ρ := B.to hs hp (fun i s q => ⟨q, rfl⟩) fun j a xs q => .inl ⟨j, xs, q⟩
theorem BxOk.nil (h : ∀ (i : Nat) (s : Sh), ρ[i]? ≠ some (some (.box s))) : BxOk K F G H σ ρ := ⟨fun i s q => absurd q (h i s), fun i j s t p q1 _ _ _ => absurd q1 (h i s), fun j a xs q m => by
  obtain ⟨i, s, h1, _⟩ := m
  exact h i s h1⟩
theorem BxOk.fresh (B : BxOk K F G H σ ρ) {a : Addr} (h : H a = none) : ¬ InBox ρ a := fun m => by
  obtain ⟨_, _, o, e⟩ := B.free m
  rw [h] at e; cases e
theorem BxOk.notG (B : BxOk K F G H σ ρ) {a : Addr} {o : HO} (h : G a = some o) : ¬ InBox ρ a := fun m => by
  have := (B.free m).2.1
  rw [h] at this; cases this
theorem BxOk.unguard (B : BxOk K F G' H σ ρ) (h : Same G G') : BxOk K F G H σ ρ := B.heap (.refl _) fun p m => ⟨(B.free m).1, h.free (B.free m).2.1, rfl⟩
theorem BxOk.guard (B : BxOk K F G H σ ρ) {p : Addr} {o : HO} (h : ¬ InBox ρ p) : BxOk K F (upd G p o) H σ ρ := B.heap (.refl _) fun q m => ⟨(B.free m).1, by rw [upd_ne (a := p) (b := q) fun z => h (by rw [← z]; exact m)]; exact (B.free m).2.1, rfl⟩
theorem BxOk.upd' (B : BxOk K F G H σ ρ) {p : Addr} {o : HO} (h : ¬ InBox ρ p) : BxOk K F G (upd H p o) σ ρ := B.heap (.refl _) fun q m => ⟨(B.free m).1, (B.free m).2.1, upd_ne fun z => h (by rw [← z]; exact m)⟩
theorem BxOk.new (B : BxOk K F G H σ ρ) {p : Addr} {o : HO} (hF : F p = none) (h : H p = none) : BxOk K (upd F p o) G (upd H p o) σ ρ := B.heap (fun b x e => by rw [upd_ne (ne_of_none e hF)]; exact e) fun q m => by
  obtain ⟨f, g, o, e⟩ := B.free m
  have n : q ≠ p := ne_of_none e h
  exact ⟨by rw [upd_ne n]; exact f, g, by rw [upd_ne n]⟩
theorem BxOk.more (B : BxOk K F G H σ ρ) {p : Addr} {o : HO} (h : H p = none) : BxOk K F G (upd H p o) σ ρ := B.heap (.refl _) fun q m => by
  obtain ⟨f, g, o, e⟩ := B.free m
  have n : q ≠ p := ne_of_none e h
  exact ⟨f, g, by rw [upd_ne n]⟩
theorem set_box {i j : Nat} {c : Option Cell} {s : Sh} (hc : ∀ t, c ≠ some (.box t)) (q : (ρ.set i c)[j]? = some (some (.box s))) : ρ[j]? = some (some (.box s)) ∧ i ≠ j := by
  by_cases hj : i = j
  · subst hj
    by_cases hi : i < ρ.length
    · rw [List.getElem?_set_self hi] at q; exact absurd (Option.some.inj q) (hc s)
    · rw [List.getElem?_eq_none (by simpa using hi)] at q; cases q
  · rw [List.getElem?_set_ne hj] at q; exact ⟨q, hj⟩
theorem set_inbox {i : Nat} {c : Option Cell} {p : Addr} (hc : ∀ t, c ≠ some (.box t)) : InBox (ρ.set i c) p → InBox ρ p := fun ⟨j, s, e, m⟩ => ⟨j, s, (set_box hc e).1, m⟩
theorem set_own {i j : Nat} {c : Option Cell} {a : Addr} {xs : List D} (q : (ρ.set i c)[j]? = some (some (.own a xs))) : c = some (.own a xs) ∨ ρ[j]? = some (some (.own a xs)) := by
  by_cases hj : i = j
  · subst hj
    by_cases hi : i < ρ.length
    · rw [List.getElem?_set_self hi] at q; exact .inl (Option.some.inj q)
    · rw [List.getElem?_eq_none (by simpa using hi)] at q; cases q
  · rw [List.getElem?_set_ne hj] at q; exact .inr q
theorem BxOk.set (B : BxOk K F G H σ ρ) (i : Nat) (v : Option V) {c : Option Cell} (hc : ∀ t, c ≠ some (.box t)) (ho : ∀ a xs, c = some (.own a xs) → (∃ (k : Nat) (ys : List D), ρ[k]? = some (some (.own a ys))) ∨ ¬ InBox ρ a) : BxOk K F G H (σ.set i v) (ρ.set i c) :=
  B.to (.refl _) (fun p m => ⟨(B.free m).1, (B.free m).2.1, rfl⟩) (fun j s q => ⟨(set_box hc q).1, List.getElem?_set_ne (set_box hc q).2⟩) fun j a xs q => (set_own q).elim (ho a xs) fun q => .inl ⟨j, xs, q⟩
theorem BxOk.set' (B : BxOk K F G H σ ρ) (i : Nat) {c : Option Cell} (hc : ∀ t, c ≠ some (.box t)) (ho : ∀ a xs, c = some (.own a xs) → (∃ (k : Nat) (ys : List D), ρ[k]? = some (some (.own a ys))) ∨ ¬ InBox ρ a) : BxOk K F G H σ (ρ.set i c) :=
  B.to (.refl _) (fun p m => ⟨(B.free m).1, (B.free m).2.1, rfl⟩) (fun j s q => ⟨(set_box hc q).1, rfl⟩) fun j a xs q => (set_own q).elim (ho a xs) fun q => .inl ⟨j, xs, q⟩
end
structure Up (G F F' : Hp) : Prop where
  ex : Same F F'
  out : ∀ a o, F' a = some o → F a = some o ∨ G a = none
theorem Up.refl (G F : Hp) : Up G F F := ⟨.refl F, fun _ _ h => .inl h⟩
theorem Up.trans {G F F1 F2 : Hp} (a : Up G F F1) (b : Up G F1 F2) : Up G F F2 := ⟨a.ex.trans b.ex, fun x o h => by
  rcases b.out x o h with h | h
  · exact a.out x o h
  · exact .inr h⟩
theorem Up.isNone {G F F' : Hp} (u : Up G F F') {a : Addr} {o : HO} (hF : F a = none) (hG : G a = some o) : F' a = none := by
  cases q : F' a with
  | none => rfl
  | some x =>
    rcases u.out a x q with h | h
    · rw [hF] at h; cases h
    · rw [hG] at h; cases h
theorem Up.less {G G' F F' : Hp} (u : Up G F F') (h : Same G' G) : Up G' F F' := ⟨u.ex, fun a o e => by
  rcases u.out a o e with q | q
  · exact .inl q
  · exact .inr (h.free q)⟩
def Mut : HO → Prop
  | .lst _ => True
  | .dK _ => True
  | .ins _ _ _ => True
  | .own _ => True
  | .frz _ _ => True
  | _ => False
theorem FsR.mut {K : PySem.W.Frag} {F H : Hp} : ∀ {vs : List (Str × V)} {fs : List (Str × Fd)}, FsR K F H vs fs → ∀ p ∈ fsFoot fs, ∃ o, H p = some o ∧ Mut o
  | [], [], _, p, m => by cases m
  | (x, v) :: vs, (y, .val d) :: fs, h, p, m => FsR.mut h.2.2 p m
  | (x, v) :: vs, (y, .own a xs) :: fs, h, p, m => by
    have m : p ∈ a :: fsFoot fs := m
    rcases List.mem_cons.mp m with rfl | m
    · obtain ⟨h1, ws, h2, h3⟩ := h.2.1
      exact ⟨_, h2, trivial⟩
    · exact FsR.mut h.2.2 p m
  | [], _ :: _, h, _, _ => h.elim
  | _ :: _, [], h, _, _ => h.elim
theorem Sh.At.mut {K : PySem.W.Frag} {F H : Hp} {s : Sh} (h : s.At K F H) {p : Addr} (m : p ∈ s.foot) : ∃ o, H p = some o ∧ Mut o := by
  cases s with
  | dic a ps =>
    obtain ⟨kvs, h1, h2⟩ := h
    rw [List.mem_singleton.mp m]; exact ⟨_, h1, trivial⟩
  | ins a C dx fs =>
    obtain ⟨n, vs, h1, h2, h3⟩ := h
    have m : p ∈ a :: dx :: fsFoot fs := m
    rcases List.mem_cons.mp m with rfl | m
    · exact ⟨_, h1, trivial⟩
    rcases List.mem_cons.mp m with rfl | m
    · exact ⟨_, h2, trivial⟩
    · exact h3.mut p m
  | dicL a o kvs ps => rw [List.mem_singleton.mp m]; exact ⟨_, h.1, trivial⟩
theorem BxOk.mut {K : PySem.W.Frag} {F G H : Hp} {σ : L2.St} {ρ : Ro} (B : BxOk K F G H σ ρ) {p : Addr} (m : InBox ρ p) : ∃ o, H p = some o ∧ Mut o := by
  obtain ⟨i, s, h1, h2⟩ := m
  exact (B.box i s h1).2.2.mut h2
class TJ where
  J : Hp → Hp → Hp → Prop
  step : ∀ {G F F' H H' : Hp}, J G F H → (∀ b o, H b = some o → ¬ Mut o → H' b = some o) → (∀ b o, F' b = some o → F b = some o ∨ H b = none ∨ ∃ x, H b = some x ∧ Mut x) → J G F' H'
  frame : ∀ {G G' F H : Hp}, J G F H → (∀ b o, G' b = some o → G b = some o ∨ ∃ x, H b = some x ∧ Mut x) → J G' F H
@[reducible] def tj0 : TJ := ⟨fun _ _ _ => True, fun _ _ _ => trivial, fun _ _ => trivial⟩
@[reducible] instance (priority := low) tjNone : TJ := tj0
structure SameJ [TJ] (G F H : Hp) : Prop where
  same : Same G H
  tj : TJ.J G F H
section
variable [TJ] {G G' F F' H H' : Hp}
instance : CoeFun (SameJ G F H) (fun _ => ∀ a x, G a = some x → H a = some x) := ⟨fun h => h.same⟩
instance : CoeOut (SameJ G F H) (Same G H) := ⟨fun h => h.same⟩
theorem SameJ.step (h : SameJ G F H) (e : Same H H') (f : ∀ b o, F' b = some o → F b = some o ∨ H b = none ∨ ∃ vs, H b = some (.lst vs)) : SameJ G F' H' := ⟨h.same.trans e, TJ.step h.tj (fun b o q _ => e b o q) fun b o q => (f b o q).elim .inl fun z => z.elim (fun z => .inr (.inl z)) fun ⟨vs, z⟩ => .inr (.inr ⟨_, z, trivial⟩)⟩
theorem SameJ.trans (h : SameJ G F H) (e : Same H H') : SameJ G F H' := h.step e fun _ _ q => .inl q
theorem SameJ.up (h : SameJ G F H) (e : Same H H') (u : ∀ b o, F' b = some o → F b = some o ∨ H b = none) : SameJ G F' H' := h.step e fun b o q => (u b o q).elim .inl fun z => .inr (.inl z)
theorem SameJ.new (h : SameJ G F H) {p : Addr} {o : HO} (n : H p = none) : SameJ G (upd F p o) (upd H p o) := h.up (fun b x q => by rw [upd_ne (ne_of_none q n)]; exact q) fun b x q => by
  by_cases m : b = p
  · subst m; exact .inr n
  · rw [upd_ne m] at q; exact .inl q
theorem SameJ.froz (h : SameJ G F H) (f : ∀ b o, F' b = some o → F b = some o ∨ ∃ vs, H b = some (.lst vs)) : SameJ G F' H := h.step (.refl _) fun b o q => (f b o q).elim .inl fun z => .inr (.inr z)
theorem SameJ.free (h : SameJ G F H) {a : Addr} (n : H a = none) : G a = none := h.same.free n
theorem SameJ.less (h : SameJ G F H) (e : Same G' G) : SameJ G' F H := ⟨e.trans h.same, TJ.frame h.tj fun b o q => .inl (e b o q)⟩
theorem SameJ.mut (h : SameJ G F H) {a : Addr} {o u : HO} (n : G a = none) (e : H a = some o) (mo : Mut o := by trivial) : SameJ G F (upd H a u) :=
  ⟨fun b x q => by
    have m : b ≠ a := fun z => by subst z; rw [n] at q; cases q
    rw [upd_ne m]; exact h.same b x q, TJ.step h.tj (fun b o q ne => by
    have m : b ≠ a := fun z => by subst z; rw [e] at q; exact ne ((Option.some.inj q) ▸ mo)
    rw [upd_ne m]; exact q) fun _ _ q => .inl q⟩
theorem SameJ.guard (h : SameJ G F H) {a : Addr} {o : HO} (e : H a = some o) (mo : Mut o := by trivial) : SameJ (upd G a o) F H :=
  ⟨fun b x q => by
    by_cases m : b = a
    · subst m; rw [upd_same] at q; cases q; exact e
    · rw [upd_ne m] at q; exact h.same b x q, TJ.frame h.tj fun b u q => by
    by_cases m : b = a
    · subst m; exact .inr ⟨o, e, mo⟩
    · rw [upd_ne m] at q; exact .inl q⟩
end
structure Sim [TJ] (K : PySem.W.Frag) (G F H : Hp) (σ : L2.St) (ρ : Ro) : Prop where
  hF : Same F H
  hG : SameJ G F H
  len : σ.length = ρ.length
  val : ∀ (i : Nat) (d : D), ρ[i]? = some (some (.val d)) → ∃ v, σ[i]? = some (some v) ∧ Rep K F v d
  own : ∀ (i : Nat) (a : Addr) (xs : List D), ρ[i]? = some (some (.own a xs)) → σ[i]? = some (some (.ref a)) ∧ F a = none ∧ G a = none ∧ ∃ vs, H a = some (.lst vs) ∧ Reps K F vs xs
  ne : ∀ (i j : Nat) (a : Addr) (xs ys : List D), ρ[i]? = some (some (.own a xs)) → ρ[j]? = some (some (.own a ys)) → i = j
  bx : BxOk K F G H σ ρ
structure SimR (K : PySem.W.Frag) (G F H : Hp) (σ : L2.St) (ρ : Ro) : Prop where
  hF : Same F H
  hG : Same G H
  len : σ.length = ρ.length
  val : ∀ (i : Nat) (d : D), ρ[i]? = some (some (.val d)) → ∃ v, σ[i]? = some (some v) ∧ Rep K F v d
  own : ∀ (i : Nat) (a : Addr) (xs : List D), ρ[i]? = some (some (.own a xs)) → σ[i]? = some (some (.ref a)) ∧ F a = none ∧ G a = none ∧ ∃ vs, H a = some (.lst vs) ∧ Reps K F vs xs
  ne : ∀ (i j : Nat) (a : Addr) (xs ys : List D), ρ[i]? = some (some (.own a xs)) → ρ[j]? = some (some (.own a ys)) → i = j
  bx : BxOk K F G H σ ρ
theorem SimR.sim {K : PySem.W.Frag} {G F H : Hp} {σ : L2.St} {ρ : Ro} (S : SimR K G F H σ ρ) : Sim K G F H σ ρ := ⟨S.hF, ⟨S.hG, trivial⟩, S.len, S.val, S.own, S.ne, S.bx⟩
theorem SameJ.rfl' (F H : Hp) : SameJ H F H := ⟨.refl H, trivial⟩
theorem SameJ.of {G F H : Hp} (h : Same G H) : SameJ G F H := ⟨h, trivial⟩
section
variable [TJ] {K : PySem.W.Frag} {G F H : Hp} {σ : L2.St} {ρ : Ro}
theorem Sim.freshF (S : Sim K G F H σ ρ) {p : Addr} (h : H p = none) : F p = none := S.hF.free h
theorem Sim.freshG (S : Sim K G F H σ ρ) {p : Addr} (h : H p = none) : G p = none := S.hG.free h
theorem same_new {H : Hp} {p : Addr} {o : HO} (h : H p = none) : Same H (upd H p o) := fun b x e => by
  rw [upd_ne (ne_of_none e h)]
  exact e
theorem Up.new {p : Addr} {o : HO} (hF : F p = none) (hG : G p = none) : Up G F (upd F p o) := ⟨same_new hF, fun a x e => by
  by_cases q : a = p
  · subst q; exact .inr hG
  · rw [upd_ne q] at e; exact .inl e⟩
theorem Sim.new (S : Sim K G F H σ ρ) {p : Addr} {o : HO} (h : H p = none) : Sim K G (upd F p o) (upd H p o) σ ρ where
  hF := fun a x e => by
    by_cases q : a = p
    · subst q; rw [upd_same] at e ⊢; exact e
    · rw [upd_ne q] at e ⊢; exact S.hF a x e
  hG := S.hG.new h
  len := S.len
  val := fun i d e => by
    obtain ⟨v, h1, h2⟩ := S.val i d e
    exact ⟨v, h1, h2.mono (same_new (S.freshF h))⟩
  own := fun i a xs e => by
    obtain ⟨h1, h2, h3, vs, h4, h5⟩ := S.own i a xs e
    have q : a ≠ p := ne_of_none h4 h
    exact ⟨h1, by rw [upd_ne q]; exact h2, h3, vs, by rw [upd_ne q]; exact h4, h5.mono (same_new (S.freshF h))⟩
  ne := S.ne
  bx := S.bx.new (S.freshF h) h
theorem Sim.upNew (S : Sim K G F H σ ρ) {p : Addr} {o : HO} (h : H p = none) : Up G F (upd F p o) := Up.new (S.freshF h) (S.freshG h)
theorem Sim.more (S : Sim K G F H σ ρ) {p : Addr} {o : HO} (h : H p = none) : Sim K G F (upd H p o) σ ρ where
  hF := S.hF.trans (same_new h)
  hG := S.hG.trans (same_new h)
  len := S.len
  val := S.val
  own := fun i a xs e => by
    obtain ⟨h1, h2, h3, vs, h4, h5⟩ := S.own i a xs e
    exact ⟨h1, h2, h3, vs, by rw [upd_ne (ne_of_none h4 h)]; exact h4, h5⟩
  ne := S.ne
  bx := S.bx.more h
theorem Sim.mut (S : Sim K G F H σ ρ) {i : Nat} {a : Addr} {xs ys : List D} {vs : List V} (e : ρ[i]? = some (some (.own a xs))) (r : Reps K F vs ys) :
    Sim K G F (upd H a (.lst vs)) σ (ρ.set i (some (.own a ys))) := by
  obtain ⟨h1, h2, h3, ws, h4, h5⟩ := S.own i a xs e
  have hi : i < ρ.length := by
    rcases Nat.lt_or_ge i ρ.length with h | h
    · exact h
    · rw [List.getElem?_eq_none h] at e; cases e
  refine ⟨fun b x q => ?_, S.hG.mut h3 h4, by simpa using S.len, fun j d q => ?_, fun j b zs q => ?_, fun j k b zs ws q1 q2 => ?_, S.bx.to (.refl _) (fun q m => ⟨(S.bx.free m).1, (S.bx.free m).2.1, upd_ne (S.bx.apart m e)⟩) (fun j s q => ⟨(set_box (by simp) q).1, rfl⟩) fun j b zs q => (set_own q).elim (fun z => by cases z; exact .inl ⟨i, xs, e⟩) fun q => .inl ⟨j, zs, q⟩⟩
  · have n : b ≠ a := fun z => by subst z; rw [h2] at q; cases q
    rw [upd_ne n]; exact S.hF b x q
  · by_cases hj : i = j
    · subst hj; rw [List.getElem?_set_self hi] at q; cases q
    · rw [List.getElem?_set_ne hj] at q; exact S.val j d q
  · by_cases hj : i = j
    · subst hj
      rw [List.getElem?_set_self hi] at q
      cases q
      exact ⟨h1, h2, h3, vs, upd_same, r⟩
    · rw [List.getElem?_set_ne hj] at q
      obtain ⟨g1, g2, g3, us, g4, g5⟩ := S.own j b zs q
      have n : b ≠ a := fun z => by subst z; exact hj (S.ne _ _ _ _ _ e q)
      exact ⟨g1, g2, g3, us, by rw [upd_ne n]; exact g4, g5⟩
  · by_cases hj : i = j
    · subst hj
      by_cases hk : i = k
      · exact hk
      · rw [List.getElem?_set_self hi] at q1
        rw [List.getElem?_set_ne hk] at q2
        cases q1
        exact absurd (S.ne _ _ _ _ _ e q2) hk
    · by_cases hk : i = k
      · subst hk
        rw [List.getElem?_set_self hi] at q2
        rw [List.getElem?_set_ne hj] at q1
        cases q2
        exact absurd (S.ne _ _ _ _ _ e q1) hj
      · rw [List.getElem?_set_ne hj] at q1
        rw [List.getElem?_set_ne hk] at q2
        exact S.ne _ _ _ _ _ q1 q2
theorem Sim.setVal (S : Sim K G F H σ ρ) (i : Nat) {v : V} {d : D} (r : Rep K F v d) : Sim K G F H (σ.set i (some v)) (ρ.set i (some (.val d))) := by
  refine ⟨S.hF, S.hG, by simpa using S.len, fun j d' q => ?_, fun j b zs q => ?_, fun j k b zs ws q1 q2 => ?_, S.bx.set i _ (by simp) (by simp)⟩
  · by_cases hj : i = j
    · subst hj
      by_cases hi : i < ρ.length
      · rw [List.getElem?_set_self hi] at q
        cases q
        exact ⟨v, List.getElem?_set_self (by rw [S.len]; exact hi), r⟩
      · rw [List.getElem?_eq_none (by simpa using hi)] at q; cases q
    · rw [List.getElem?_set_ne hj] at q ⊢; exact S.val j d' q
  · by_cases hj : i = j
    · subst hj
      by_cases hi : i < ρ.length
      · rw [List.getElem?_set_self hi] at q; cases q
      · rw [List.getElem?_eq_none (by simpa using hi)] at q; cases q
    · rw [List.getElem?_set_ne hj] at q ⊢; exact S.own j b zs q
  · have n : ∀ (j : Nat) (zs : List D), (ρ.set i (some (.val d)))[j]? = some (some (.own b zs)) → ρ[j]? = some (some (.own b zs)) := fun j zs q => by
      by_cases hj : i = j
      · subst hj
        by_cases hi : i < ρ.length
        · rw [List.getElem?_set_self hi] at q; cases q
        · rw [List.getElem?_eq_none (by simpa using hi)] at q; cases q
      · rw [List.getElem?_set_ne hj] at q; exact q
    exact S.ne _ _ _ _ _ (n _ _ q1) (n _ _ q2)
def NotOwn (ρ : Ro) (a : Addr) : Prop := (∀ (i : Nat) (xs : List D), ρ[i]? ≠ some (some (.own a xs))) ∧ ¬ InBox ρ a
theorem Sim.notOwn (S : Sim K G F H σ ρ) {a : Addr} (h : H a = none) : NotOwn ρ a := ⟨fun i xs q => (by
  obtain ⟨_, _, _, vs, h4, _⟩ := S.own i a xs q
  rw [h] at h4
  cases h4), S.bx.fresh h⟩
theorem Sim.setOwn (S : Sim K G F H σ ρ) (i : Nat) {a : Addr} {vs : List V} {xs : List D} (hH : H a = some (.lst vs)) (hF : F a = none) (hG : G a = none) (hn : NotOwn ρ a) (r : Reps K F vs xs) :
    Sim K G F H (σ.set i (some (.ref a))) (ρ.set i (some (.own a xs))) := by
  have far : ∀ (j : Nat) (c : Cell), i ≠ j → (ρ.set i (some (.own a xs)))[j]? = some (some c) → ρ[j]? = some (some c) := fun j c hj q => by
    rw [List.getElem?_set_ne hj] at q; exact q
  have near : ∀ (c : Cell), (ρ.set i (some (.own a xs)))[i]? = some (some c) → c = .own a xs ∧ i < ρ.length := fun c q => by
    by_cases hi : i < ρ.length
    · rw [List.getElem?_set_self hi] at q; cases q; exact ⟨rfl, hi⟩
    · rw [List.getElem?_eq_none (by simpa using hi)] at q; cases q
  refine ⟨S.hF, S.hG, by simpa using S.len, fun j d' q => ?_, fun j b zs q => ?_, fun j k b zs ws q1 q2 => ?_, S.bx.set i _ (by simp) fun b zs z => by cases z; exact .inr hn.2⟩
  · by_cases hj : i = j
    · subst hj; exact nomatch (near _ q).1
    · obtain ⟨v, h1, h2⟩ := S.val j d' (far _ _ hj q)
      exact ⟨v, by rw [List.getElem?_set_ne hj]; exact h1, h2⟩
  · by_cases hj : i = j
    · subst hj
      obtain ⟨e, hi⟩ := near _ q
      cases e
      exact ⟨List.getElem?_set_self (by rw [S.len]; exact hi), hF, hG, vs, hH, r⟩
    · obtain ⟨h1, h2⟩ := S.own j b zs (far _ _ hj q)
      exact ⟨by rw [List.getElem?_set_ne hj]; exact h1, h2⟩
  · by_cases hj : i = j
    · subst hj
      by_cases hk : i = k
      · exact hk
      · have e := (near _ q1).1
        cases e
        exact absurd (far _ _ hk q2) (hn.1 _ _)
    · by_cases hk : i = k
      · subst hk
        have e := (near _ q2).1
        cases e
        exact absurd (far _ _ hj q1) (hn.1 _ _)
      · exact S.ne _ _ _ _ _ (far _ _ hj q1) (far _ _ hk q2)
theorem Sim.forget (S : Sim K G F H σ ρ) (i : Nat) (x : Option V) : Sim K G F H (σ.set i x) (ρ.set i none) := by
  have far : ∀ (j : Nat) (c : Cell), (ρ.set i none)[j]? = some (some c) → ρ[j]? = some (some c) ∧ i ≠ j := fun j c q => by
    by_cases hj : i = j
    · subst hj
      by_cases hi : i < ρ.length
      · rw [List.getElem?_set_self hi] at q; cases q
      · rw [List.getElem?_eq_none (by simpa using hi)] at q; cases q
    · rw [List.getElem?_set_ne hj] at q; exact ⟨q, hj⟩
  refine ⟨S.hF, S.hG, by simpa using S.len, fun j d' q => ?_, fun j b zs q => ?_, fun j k b zs ws q1 q2 => S.ne _ _ _ _ _ (far _ _ q1).1 (far _ _ q2).1, S.bx.set i x (by simp) (by simp)⟩
  · obtain ⟨q1, hj⟩ := far _ _ q
    rw [List.getElem?_set_ne hj]
    exact S.val j d' q1
  · obtain ⟨q1, hj⟩ := far _ _ q
    rw [List.getElem?_set_ne hj]
    exact S.own j b zs q1
theorem Sim.forget' (S : Sim K G F H σ ρ) (i : Nat) : Sim K G F H σ (ρ.set i none) := by
  have far : ∀ (j : Nat) (c : Cell), (ρ.set i none)[j]? = some (some c) → ρ[j]? = some (some c) := fun j c q => by
    by_cases hj : i = j
    · subst hj
      by_cases hi : i < ρ.length
      · rw [List.getElem?_set_self hi] at q; cases q
      · rw [List.getElem?_eq_none (by simpa using hi)] at q; cases q
    · rw [List.getElem?_set_ne hj] at q; exact q
  exact ⟨S.hF, S.hG, by simpa using S.len, fun j d' q => S.val j d' (far _ _ q), fun j b zs q => S.own j b zs (far _ _ q), fun j k b zs ws q1 q2 => S.ne _ _ _ _ _ (far _ _ q1) (far _ _ q2), S.bx.set' i (by simp) (by simp)⟩
theorem Sim.freeze (S : Sim K G F H σ ρ) {i : Nat} {a : Addr} {xs : List D} (e : ρ[i]? = some (some (.own a xs))) :
    ∃ F', Up G F F' ∧ Rep K F' (.ref a) (.lst xs) ∧ Sim K G F' H σ (ρ.set i (some (.val (.lst xs)))) := by
  obtain ⟨h1, h2, h3, vs, h4, h5⟩ := S.own i a xs e
  have hi : i < ρ.length := by
    rcases Nat.lt_or_ge i ρ.length with h | h
    · exact h
    · rw [List.getElem?_eq_none h] at e; cases e
  have sm : Same F (upd F a (.lst vs)) := same_new h2
  have rp : Rep K (upd F a (.lst vs)) (.ref a) (.lst xs) := .lst upd_same (h5.mono sm)
  refine ⟨upd F a (.lst vs), Up.new h2 h3, rp, fun b x q => ?_, S.hG.froz fun b x q => ?_, by simpa using S.len, fun j d q => ?_, fun j b zs q => ?_, fun j k b zs ws q1 q2 => ?_, S.bx.to sm (fun q m => ⟨by rw [upd_ne (S.bx.apart m e)]; exact (S.bx.free m).1, (S.bx.free m).2.1, rfl⟩) (fun j s q => ⟨(set_box (by simp) q).1, rfl⟩) fun j b zs q => (set_own q).elim (fun z => by cases z) fun q => .inl ⟨j, zs, q⟩⟩
  · by_cases n : b = a
    · subst n; rw [upd_same] at q; cases q; exact h4
    · rw [upd_ne n] at q; exact S.hF b x q
  · by_cases n : b = a
    · subst n; exact .inr ⟨vs, h4⟩
    · rw [upd_ne n] at q; exact .inl q
  · by_cases hj : i = j
    · subst hj
      rw [List.getElem?_set_self hi] at q
      cases q
      exact ⟨_, h1, rp⟩
    · rw [List.getElem?_set_ne hj] at q
      obtain ⟨v, g1, g2⟩ := S.val j d q
      exact ⟨v, g1, g2.mono sm⟩
  · by_cases hj : i = j
    · subst hj
      rw [List.getElem?_set_self hi] at q; cases q
    · rw [List.getElem?_set_ne hj] at q
      obtain ⟨g1, g2, g3, us, g4, g5⟩ := S.own j b zs q
      have n : b ≠ a := fun z => by subst z; exact hj (S.ne _ _ _ _ _ e q)
      exact ⟨g1, by rw [upd_ne n]; exact g2, g3, us, g4, g5.mono sm⟩
  · have n : ∀ (j : Nat) (zs : List D), (ρ.set i (some (.val (.lst xs))))[j]? = some (some (.own b zs)) → ρ[j]? = some (some (.own b zs)) := fun j zs q => by
      by_cases hj : i = j
      · subst hj; rw [List.getElem?_set_self hi] at q; cases q
      · rw [List.getElem?_set_ne hj] at q; exact q
    exact S.ne _ _ _ _ _ (n _ _ q1) (n _ _ q2)
end
end Pl
namespace Pl
open PySem PySem.Spec PyProof.Rows L2
variable [TJ]
abbrev TEp := Ro → (D → Ro → Prop) → Prop
abbrev TCp := Ro → (Cell → Ro → Prop) → Prop
abbrev TTp := Ro → (Bool → Ro → Prop) → Prop
abbrev TAp := Ro → (List D → Ro → Prop) → Prop
def SndE (K : PySem.W.Frag) (t : TE) (T : TEp) : Prop := ∀ (G F H : Hp) (σ : L2.St) (ρ : Ro) (Q : D → Ro → Prop) (R : VK), Sim K G F H σ ρ → T ρ Q →
  (∀ v d F' H' ρ', Up G F F' → Sim K G F' H' σ ρ' → Rep K F' v d → Q d ρ' → R v H') → t σ H R
def SndT (K : PySem.W.Frag) (t : TT) (T : TTp) : Prop := ∀ (G F H : Hp) (σ : L2.St) (ρ : Ro) (Q : Bool → Ro → Prop) (R : Bool → Hp → Prop), Sim K G F H σ ρ → T ρ Q →
  (∀ b F' H' ρ', Up G F F' → Sim K G F' H' σ ρ' → Q b ρ' → R b H') → t σ H R
def SndA (K : PySem.W.Frag) (t : TA) (T : TAp) : Prop := ∀ (G F H : Hp) (σ : L2.St) (ρ : Ro) (Q : List D → Ro → Prop) (R : List V → Hp → Prop), Sim K G F H σ ρ → T ρ Q →
  (∀ vs ds F' H' ρ', Up G F F' → Sim K G F' H' σ ρ' → Reps K F' vs ds → Q ds ρ' → R vs H') → t σ H R
def SndC (K : PySem.W.Frag) (t : TE) (T : TCp) : Prop := ∀ (G F H : Hp) (σ : L2.St) (ρ : Ro) (Q : Cell → Ro → Prop) (R : VK), Sim K G F H σ ρ → T ρ Q →
  (∀ v c F' H' ρ', Up G F F' → Sim K G F' H' (σ ++ [some v]) (ρ' ++ [some c]) → Q c ρ' → R v H') → t σ H R
structure PPE (X : Cx) (e : Expr) (t : TE) (T : TEp) : Prop where
  pe : PE X e t
  snd : SndE X.K t T
structure PPC (X : Cx) (e : Expr) (t : TE) (T : TCp) : Prop where
  pe : PE X e t
  snd : SndC X.K t T
structure PPT (X : Cx) (e : Expr) (t : TT) (T : TTp) : Prop where
  pt : PT X e t
  snd : SndT X.K t T
structure PPW (X : Cx) (e : Expr) (t : TT) (T : TTp) : Prop where
  pw : PW X e t
  snd : SndT X.K t T
structure PPA (X : Cx) (es : List Expr) (t : TA) (T : TAp) : Prop where
  pa : PA X es t
  snd : SndA X.K t T
inductive Res (K : PySem.W.Frag) (F H : Hp) (v : V) (d : D) : Hp → Hp → Prop
  | old : Rep K F v d → Res K F H v d F H
  | new {p : Addr} {o : HO} : H p = none → Rep K (upd F p o) v d → Res K F H v d (upd F p o) (upd H p o)
section
variable {K : PySem.W.Frag} {G F H F' H' : Hp} {σ : L2.St} {ρ : Ro} {v : V} {d : D}
theorem Sim.res (S : Sim K G F H σ ρ) (r : Res K F H v d F' H') : Up G F F' ∧ Sim K G F' H' σ ρ ∧ Rep K F' v d := by
  cases r with
  | old r => exact ⟨.refl _ _, S, r⟩
  | new h r => exact ⟨S.upNew h, S.new h, r⟩
theorem cut_last {ρ : Ro} {c : Cell} {i : Nat} {x : Cell} (h : (ρ ++ [some c])[i]? = some (some x)) : (ρ[i]? = some (some x) ∧ i < ρ.length) ∨ (i = ρ.length ∧ x = c) := by
  rcases Nat.lt_or_ge i ρ.length with q | q
  · rw [List.getElem?_append_left q] at h; exact .inl ⟨h, q⟩
  · rw [List.getElem?_append_right q] at h
    rcases Nat.eq_zero_or_pos (i - ρ.length) with z | z
    · rw [z] at h; simp at h; exact .inr ⟨by omega, h.symm⟩
    · rw [List.getElem?_eq_none (by simp; omega)] at h; cases h
theorem at_lt {ρ : Ro} {i : Nat} {c : Cell} (h : ρ[i]? = some (some c)) : i < ρ.length := by
  rcases Nat.lt_or_ge i ρ.length with q | q
  · exact q
  · rw [List.getElem?_eq_none q] at h; cases h
theorem at_more {ρ : Ro} {i : Nat} {x c : Cell} (h : ρ[i]? = some (some x)) : (ρ ++ [some c])[i]? = some (some x) := by rw [List.getElem?_append_left (at_lt h)]; exact h
theorem BxOk.push {G F H : Hp} {σ : L2.St} {ρ : Ro} {c : Cell} (B : BxOk K F G H σ ρ) (hl : σ.length = ρ.length) (v : Option V) (hc : ∀ t, c ≠ .box t) (ho : ∀ a xs, c = .own a xs → ¬ InBox ρ a) : BxOk K F G H (σ ++ [v]) (ρ ++ [some c]) :=
  B.to (.refl _) (fun p m => ⟨(B.free m).1, (B.free m).2.1, rfl⟩) (fun i s h => by
    rcases cut_last h with ⟨h, q⟩ | ⟨_, e⟩
    · exact ⟨h, by rw [List.getElem?_append_left (by rw [hl]; exact q)]⟩
    · exact absurd e.symm (hc s)) fun j a xs h => by
    rcases cut_last h with ⟨h, q⟩ | ⟨_, e⟩
    · exact .inl ⟨j, xs, h⟩
    · exact .inr (ho a xs e.symm)
theorem BxOk.drop {G F H : Hp} {σ : L2.St} {ρ : Ro} {c : Cell} {v : Option V} (B : BxOk K F G H (σ ++ [v]) (ρ ++ [some c])) (hl : σ.length = ρ.length) : BxOk K F G H σ ρ :=
  B.to (.refl _) (fun p m => ⟨(B.free m).1, (B.free m).2.1, rfl⟩) (fun i s h => ⟨at_more h, by rw [List.getElem?_append_left (by rw [hl]; exact at_lt h)]⟩) fun j a xs h => .inl ⟨j, xs, at_more h⟩
theorem Sim.drop {c : Cell} (S : Sim K G F H (σ ++ [some v]) (ρ ++ [some c])) : Sim K G F H σ ρ := by
  have hl : σ.length = ρ.length := by have := S.len; simpa using this
  have ix : ∀ {i : Nat} {c : Cell}, ρ[i]? = some (some c) → i < ρ.length := fun {i c} h => by
    rcases Nat.lt_or_ge i ρ.length with q | q
    · exact q
    · rw [List.getElem?_eq_none q] at h; cases h
  have up : ∀ {i : Nat} {x : Cell}, ρ[i]? = some (some x) → (ρ ++ [some c])[i]? = some (some x) := fun {i x} h => by
    rw [List.getElem?_append_left (ix h)]; exact h
  refine ⟨S.hF, S.hG, hl, fun i d h => ?_, fun i a xs h => ?_, fun i j a xs ys h1 h2 => S.ne i j a xs ys (up h1) (up h2), S.bx.drop hl⟩
  · obtain ⟨v, h1, h2⟩ := S.val i d (up h)
    rw [List.getElem?_append_left (by rw [hl]; exact ix h)] at h1
    exact ⟨v, h1, h2⟩
  · obtain ⟨h1, h2⟩ := S.own i a xs (up h)
    rw [List.getElem?_append_left (by rw [hl]; exact ix h)] at h1
    exact ⟨h1, h2⟩
theorem Sim.lastVal (S : Sim K G F H (σ ++ [some v]) (ρ ++ [some (.val d)])) : Rep K F v d := by
  have hl : σ.length = ρ.length := by have := S.len; simpa using this
  obtain ⟨u, h1, h2⟩ := S.val ρ.length d (by simp)
  rw [← hl] at h1
  simp at h1
  subst h1
  exact h2
theorem Sim.lastOwn {a : Addr} {xs : List D} (S : Sim K G F H (σ ++ [some v]) (ρ ++ [some (.own a xs)])) : v = .ref a ∧ F a = none ∧ G a = none ∧ NotOwn ρ a ∧ ∃ vs, H a = some (.lst vs) ∧ Reps K F vs xs := by
  have hl : σ.length = ρ.length := by have := S.len; simpa using this
  obtain ⟨h1, h2, h3, h4⟩ := S.own ρ.length a xs (by simp)
  rw [← hl] at h1
  simp at h1
  refine ⟨h1, h2, h3, ⟨fun i ys h => ?_, fun ⟨i, s, m1, m2⟩ => S.bx.bo ρ.length a xs (by simp) ⟨i, s, at_more m1, m2⟩⟩, h4⟩
  have hi : i < ρ.length := by
    rcases Nat.lt_or_ge i ρ.length with q | q
    · exact q
    · rw [List.getElem?_eq_none q] at h; cases h
  have := S.ne i ρ.length a ys xs (by rw [List.getElem?_append_left hi]; exact h) (by simp)
  omega
theorem Sim.pushVal (S : Sim K G F H σ ρ) (r : Rep K F v d) : Sim K G F H (σ ++ [some v]) (ρ ++ [some (.val d)]) := by
  have cut : ∀ {i : Nat} {x : Cell}, (ρ ++ [some (.val d)])[i]? = some (some x) → (ρ[i]? = some (some x) ∧ i < ρ.length) ∨ (i = ρ.length ∧ x = .val d) := fun {i x} h => by
    rcases Nat.lt_or_ge i ρ.length with q | q
    · rw [List.getElem?_append_left q] at h; exact .inl ⟨h, q⟩
    · rw [List.getElem?_append_right q] at h
      rcases Nat.eq_zero_or_pos (i - ρ.length) with z | z
      · rw [z] at h; simp at h; exact .inr ⟨by omega, h.symm⟩
      · rw [List.getElem?_eq_none (by simp; omega)] at h; cases h
  refine ⟨S.hF, S.hG, by simp [S.len], fun i d' h => ?_, fun i a xs h => ?_, fun i j a xs ys h1 h2 => ?_, S.bx.push S.len _ (by simp) (by simp)⟩
  · rcases cut h with ⟨h, q⟩ | ⟨rfl, e⟩
    · obtain ⟨u, g1, g2⟩ := S.val i d' h
      exact ⟨u, by rw [List.getElem?_append_left (by rw [S.len]; exact q)]; exact g1, g2⟩
    · cases e
      exact ⟨v, by rw [← S.len]; simp, r⟩
  · rcases cut h with ⟨h, q⟩ | ⟨_, e⟩
    · obtain ⟨g1, g2⟩ := S.own i a xs h
      exact ⟨by rw [List.getElem?_append_left (by rw [S.len]; exact q)]; exact g1, g2⟩
    · cases e
  · rcases cut h1 with ⟨h1, _⟩ | ⟨_, e⟩
    · rcases cut h2 with ⟨h2, _⟩ | ⟨_, e⟩
      · exact S.ne i j a xs ys h1 h2
      · cases e
    · cases e
theorem Sim.pushOwn (S : Sim K G F H σ ρ) {a : Addr} {vs : List V} {xs : List D} (hH : H a = some (.lst vs)) (hF : F a = none) (hG : G a = none) (hn : NotOwn ρ a) (r : Reps K F vs xs) :
    Sim K G F H (σ ++ [some (.ref a)]) (ρ ++ [some (.own a xs)]) := by
  have cut : ∀ {i : Nat} {x : Cell}, (ρ ++ [some (.own a xs)])[i]? = some (some x) → (ρ[i]? = some (some x) ∧ i < ρ.length) ∨ (i = ρ.length ∧ x = .own a xs) := fun {i x} h => by
    rcases Nat.lt_or_ge i ρ.length with q | q
    · rw [List.getElem?_append_left q] at h; exact .inl ⟨h, q⟩
    · rw [List.getElem?_append_right q] at h
      rcases Nat.eq_zero_or_pos (i - ρ.length) with z | z
      · rw [z] at h; simp at h; exact .inr ⟨by omega, h.symm⟩
      · rw [List.getElem?_eq_none (by simp; omega)] at h; cases h
  refine ⟨S.hF, S.hG, by simp [S.len], fun i d' h => ?_, fun i b ys h => ?_, fun i j b ys zs h1 h2 => ?_, S.bx.push S.len _ (by simp) fun b ys e => by cases e; exact hn.2⟩
  · rcases cut h with ⟨h, q⟩ | ⟨_, e⟩
    · obtain ⟨u, g1, g2⟩ := S.val i d' h
      exact ⟨u, by rw [List.getElem?_append_left (by rw [S.len]; exact q)]; exact g1, g2⟩
    · cases e
  · rcases cut h with ⟨h, q⟩ | ⟨rfl, e⟩
    · obtain ⟨g1, g2⟩ := S.own i b ys h
      exact ⟨by rw [List.getElem?_append_left (by rw [S.len]; exact q)]; exact g1, g2⟩
    · cases e
      exact ⟨by rw [← S.len]; simp, hF, hG, vs, hH, r⟩
  · rcases cut h1 with ⟨h1, _⟩ | ⟨e1, e⟩
    · rcases cut h2 with ⟨h2, _⟩ | ⟨_, e⟩
      · exact S.ne i j b ys zs h1 h2
      · cases e
        exact absurd h1 (hn.1 _ _)
    · cases e
      rcases cut h2 with ⟨h2, _⟩ | ⟨e2, _⟩
      · exact absurd h2 (hn.1 _ _)
      · omega
theorem Sim.lastBox {s : Sh} (S : Sim K G F H (σ ++ [some v]) (ρ ++ [some (.box s)])) : v = .ref s.root ∧ (∀ p ∈ s.foot, F p = none ∧ G p = none) ∧ s.At K F H ∧ ∀ p ∈ s.foot, NotOwn ρ p := by
  have hl : σ.length = ρ.length := by have := S.len; simpa using this
  obtain ⟨h1, h2, h3⟩ := S.bx.box ρ.length s (by simp)
  rw [← hl] at h1
  simp at h1
  refine ⟨h1, h2, h3, fun p m => ⟨fun i ys h => ?_, fun ⟨i, t, m1, m2⟩ => ?_⟩⟩
  · exact S.bx.bo i p ys (at_more h) ⟨ρ.length, s, by simp, m⟩
  · have := S.bx.bb i ρ.length t s p (at_more m1) (by simp) m2 m
    have := at_lt m1
    omega
theorem Sim.pushBox (S : Sim K G F H σ ρ) {s : Sh} (hf : ∀ p ∈ s.foot, F p = none ∧ G p = none) (ha : s.At K F H) (hn : ∀ p ∈ s.foot, NotOwn ρ p) : Sim K G F H (σ ++ [some (.ref s.root)]) (ρ ++ [some (.box s)]) := by
  refine ⟨S.hF, S.hG, by simp [S.len], fun i d' h => ?_, fun i b ys h => ?_, fun i j b ys zs h1 h2 => ?_, fun i t h => ?_, fun i j t u p h1 h2 m1 m2 => ?_, fun j a xs h ⟨i, t, h1, m⟩ => ?_⟩
  · rcases cut_last h with ⟨h, q⟩ | ⟨_, e⟩
    · obtain ⟨u, g1, g2⟩ := S.val i d' h
      exact ⟨u, by rw [List.getElem?_append_left (by rw [S.len]; exact q)]; exact g1, g2⟩
    · cases e
  · rcases cut_last h with ⟨h, q⟩ | ⟨_, e⟩
    · obtain ⟨g1, g2⟩ := S.own i b ys h
      exact ⟨by rw [List.getElem?_append_left (by rw [S.len]; exact q)]; exact g1, g2⟩
    · cases e
  · rcases cut_last h1 with ⟨h1, _⟩ | ⟨_, e⟩
    · rcases cut_last h2 with ⟨h2, _⟩ | ⟨_, e⟩
      · exact S.ne i j b ys zs h1 h2
      · cases e
    · cases e
  · rcases cut_last h with ⟨h, q⟩ | ⟨rfl, e⟩
    · obtain ⟨g1, g2⟩ := S.bx.box i t h
      exact ⟨by rw [List.getElem?_append_left (by rw [S.len]; exact q)]; exact g1, g2⟩
    · cases e
      exact ⟨by rw [← S.len]; simp, hf, ha⟩
  · rcases cut_last h1 with ⟨h1, _⟩ | ⟨e1, e⟩
    · rcases cut_last h2 with ⟨h2, _⟩ | ⟨_, e⟩
      · exact S.bx.bb i j t u p h1 h2 m1 m2
      · cases e
        exact absurd ⟨i, t, h1, m1⟩ (hn p m2).2
    · cases e
      rcases cut_last h2 with ⟨h2, _⟩ | ⟨e2, _⟩
      · exact absurd ⟨j, u, h2, m2⟩ (hn p m1).2
      · omega
  · rcases cut_last h with ⟨h, _⟩ | ⟨_, e⟩
    · rcases cut_last h1 with ⟨h1, _⟩ | ⟨_, e⟩
      · exact S.bx.bo j a xs h ⟨i, t, h1, m⟩
      · cases e
        exact (hn a m).1 j xs h
    · cases e
theorem Sim.setBox (S : Sim K G F H σ ρ) (i : Nat) {s : Sh} (hf : ∀ p ∈ s.foot, F p = none ∧ G p = none) (ha : s.At K F H) (hn : ∀ p ∈ s.foot, NotOwn ρ p) : Sim K G F H (σ.set i (some (.ref s.root))) (ρ.set i (some (.box s))) := by
  have far : ∀ (j : Nat) (c : Cell), i ≠ j → (ρ.set i (some (.box s)))[j]? = some (some c) → ρ[j]? = some (some c) := fun j c hj q => by
    rw [List.getElem?_set_ne hj] at q; exact q
  have near : ∀ (c : Cell), (ρ.set i (some (.box s)))[i]? = some (some c) → c = .box s ∧ i < ρ.length := fun c q => by
    by_cases hi : i < ρ.length
    · rw [List.getElem?_set_self hi] at q; cases q; exact ⟨rfl, hi⟩
    · rw [List.getElem?_eq_none (by simpa using hi)] at q; cases q
  have cut : ∀ {j : Nat} {x : Cell}, (ρ.set i (some (.box s)))[j]? = some (some x) → (ρ[j]? = some (some x) ∧ i ≠ j) ∨ (j = i ∧ x = .box s ∧ i < ρ.length) := fun {j x} h => by
    by_cases hj : i = j
    · subst hj; exact .inr ⟨rfl, near _ h⟩
    · exact .inl ⟨far _ _ hj h, hj⟩
  refine ⟨S.hF, S.hG, by simpa using S.len, fun j d' h => ?_, fun j b ys h => ?_, fun j k b ys zs h1 h2 => ?_, fun j t h => ?_, fun j k t u p h1 h2 m1 m2 => ?_, fun j a xs h ⟨k, t, h1, m⟩ => ?_⟩
  · rcases cut h with ⟨h, q⟩ | ⟨_, e, _⟩
    · obtain ⟨u, g1, g2⟩ := S.val j d' h
      exact ⟨u, by rw [List.getElem?_set_ne q]; exact g1, g2⟩
    · cases e
  · rcases cut h with ⟨h, q⟩ | ⟨_, e, _⟩
    · obtain ⟨g1, g2⟩ := S.own j b ys h
      exact ⟨by rw [List.getElem?_set_ne q]; exact g1, g2⟩
    · cases e
  · rcases cut h1 with ⟨h1, _⟩ | ⟨_, e, _⟩
    · rcases cut h2 with ⟨h2, _⟩ | ⟨_, e, _⟩
      · exact S.ne j k b ys zs h1 h2
      · cases e
    · cases e
  · rcases cut h with ⟨h, q⟩ | ⟨rfl, e, hi⟩
    · obtain ⟨g1, g2⟩ := S.bx.box j t h
      exact ⟨by rw [List.getElem?_set_ne q]; exact g1, g2⟩
    · cases e
      exact ⟨List.getElem?_set_self (by rw [S.len]; exact hi), hf, ha⟩
  · rcases cut h1 with ⟨h1, _⟩ | ⟨e1, e, _⟩
    · rcases cut h2 with ⟨h2, _⟩ | ⟨_, e, _⟩
      · exact S.bx.bb j k t u p h1 h2 m1 m2
      · cases e
        exact absurd ⟨j, t, h1, m1⟩ (hn p m2).2
    · cases e
      rcases cut h2 with ⟨h2, _⟩ | ⟨e2, _⟩
      · exact absurd ⟨k, u, h2, m2⟩ (hn p m1).2
      · omega
  · rcases cut h with ⟨h, _⟩ | ⟨_, e, _⟩
    · rcases cut h1 with ⟨h1, _⟩ | ⟨_, e, _⟩
      · exact S.bx.bo j a xs h ⟨k, t, h1, m⟩
      · cases e
        exact (hn a m).1 j xs h
    · cases e
theorem Sim.store {c : Cell} (S : Sim K G F H (σ ++ [some v]) (ρ ++ [some c])) (i : Nat) : Sim K G F H (σ.set i (some v)) (ρ.set i (some c)) := by
  cases c with
  | val d => exact S.drop.setVal i S.lastVal
  | own a xs =>
    obtain ⟨rfl, h2, h3, h4, vs, h5, h6⟩ := S.lastOwn
    exact S.drop.setOwn i h5 h2 h3 h4 h6
  | box s =>
    obtain ⟨rfl, h2, h3, h4⟩ := S.lastBox
    exact S.drop.setBox i h2 h3 h4
def Cell.froz : Cell → D
  | .val d => d
  | .own _ xs => .lst xs
  | .box s => .adr s.root
theorem Sim.froz {c : Cell} (S : Sim K G F H (σ ++ [some v]) (ρ ++ [some c])) : ∃ F', Up G F F' ∧ Sim K G F' H σ ρ ∧ Rep K F' v c.froz := by
  cases c with
  | val d => exact ⟨F, .refl _ _, S.drop, S.lastVal⟩
  | own a xs =>
    obtain ⟨rfl, _⟩ := S.lastOwn
    obtain ⟨F', u, r, S'⟩ := S.freeze (i := ρ.length) (a := a) (xs := xs) (by simp)
    refine ⟨F', u, ?_, r⟩
    rw [List.set_append_right _ _ (Nat.le_refl _)] at S'
    simp at S'
    exact S'.drop
  | box s =>
    obtain ⟨rfl, _⟩ := S.lastBox
    exact ⟨F, .refl _ _, S.drop, .adr _⟩
end
section
variable {X : Cx}
def pFrz (T : TCp) : TEp := fun ρ Q => T ρ fun c ρ' => Q c.froz ρ'
def pVal (T : TEp) : TCp := fun ρ Q => T ρ fun d ρ' => Q (.val d) ρ'
theorem ppe_frz {e : Expr} {t : TE} {T : TCp} (h : PPC X e t T) : PPE X e t (pFrz T) := ⟨h.pe, fun G F H σ ρ Q R S hT k => h.snd G F H σ ρ _ R S hT fun v c F' H' ρ' u S' q => by
  obtain ⟨F2, u2, S2, r2⟩ := S'.froz
  exact k v _ F2 H' ρ' (u.trans u2) S2 r2 q⟩
theorem ppc_val {e : Expr} {t : TE} {T : TEp} (h : PPE X e t T) : PPC X e t (pVal T) := ⟨h.pe, fun G F H σ ρ Q R S hT k => h.snd G F H σ ρ _ R S hT fun v d F' H' ρ' u S' r q => k v _ F' H' ρ' u (S'.pushVal r) q⟩
def pVar (i : Nat) : TEp := fun ρ Q => match ρ[i]? with
  | some (some (.val d)) => Q d ρ
  | some (some (.own _ xs)) => Q (.lst xs) (ρ.set i (some (.val (.lst xs))))
  | _ => False
theorem ppe_var (i : Nat) {x : Str} {pos : Pos} (hN : X.N[i]? = some x := by rfl) (hv : Vis X.env.scope x := by first | exact Or.inl rfl | exact Or.inr (Or.inl rfl) | exact Or.inr (Or.inr rfl)) (hd : (x == ("__debug__" : Str)) = false := by decide)
    (hcd : (x == ("__classdict__" : Str)) = false := by decide) : PPE X (.Name x pos) (tVar i) (pVar i) := ⟨pe_var hN hv hd hcd, fun G F H σ ρ Q R S hT k => by
  unfold pVar at hT
  split at hT
  · rename_i d e
    obtain ⟨v, h1, h2⟩ := S.val i d e
    exact ⟨v, h1, k v d F H ρ (.refl _ _) S h2 hT⟩
  · rename_i a xs e
    obtain ⟨F', u, r, S'⟩ := S.freeze e
    exact ⟨.ref a, (S.own i a xs e).1, k _ _ F' H _ u S' r hT⟩
  · exact hT.elim⟩
def pMove (i : Nat) : TCp := fun ρ Q => match ρ[i]? with
  | some (some (.val d)) => Q (.val d) ρ
  | some (some (.own a xs)) => Q (.own a xs) (ρ.set i none)
  | some (some (.box s)) => Q (.box s) (ρ.set i none)
  | _ => False
theorem ppc_move (i : Nat) {x : Str} {pos : Pos} (hN : X.N[i]? = some x := by rfl) (hv : Vis X.env.scope x := by first | exact Or.inl rfl | exact Or.inr (Or.inl rfl) | exact Or.inr (Or.inr rfl)) (hd : (x == ("__debug__" : Str)) = false := by decide)
    (hcd : (x == ("__classdict__" : Str)) = false := by decide) : PPC X (.Name x pos) (tVar i) (pMove i) := ⟨pe_var hN hv hd hcd, fun G F H σ ρ Q R S hT k => by
  unfold pMove at hT
  split at hT
  · rename_i d e
    obtain ⟨v, h1, h2⟩ := S.val i d e
    exact ⟨v, h1, k v _ F H ρ (.refl _ _) (S.pushVal h2) hT⟩
  · rename_i a xs e
    obtain ⟨h1, h2, h3, vs, h4, h5⟩ := S.own i a xs e
    refine ⟨.ref a, h1, k _ _ F H _ (.refl _ _) ((S.forget' i).pushOwn h4 h2 h3 ⟨fun j ys q => ?_, fun ⟨j, s, m1, m2⟩ => S.bx.bo i a xs e ⟨j, s, (set_box (by simp) m1).1, m2⟩⟩ h5) hT⟩
    by_cases hj : i = j
    · subst hj
      by_cases hi : i < ρ.length
      · rw [List.getElem?_set_self hi] at q; cases q
      · rw [List.getElem?_eq_none (by simpa using hi)] at q; cases q
    · rw [List.getElem?_set_ne hj] at q
      exact hj (S.ne _ _ _ _ _ e q)
  · rename_i s e
    obtain ⟨h1, h2, h3⟩ := S.bx.box i s e
    refine ⟨.ref s.root, h1, k _ _ F H _ (.refl _ _) ((S.forget' i).pushBox h2 h3 fun p m => ⟨fun j ys q => ?_, fun ⟨j, t, m1, m2⟩ => ?_⟩) hT⟩
    · exact S.bx.bo j p ys ((set_own q).elim (fun z => by cases z) id) ⟨i, s, e, m⟩
    · obtain ⟨q1, q2⟩ := set_box (by simp) m1
      exact q2 (S.bx.bb i j s t p e q1 m m2)
  · exact hT.elim⟩
def pC (d : D) : TEp := fun ρ Q => Q d ρ
theorem snd_c {K : PySem.W.Frag} {v : V} {d : D} (h : ∀ F, Rep K F v d) : SndE K (tC v) (pC d) := fun G F H σ ρ Q R S hT k => k v d F H ρ (.refl _ _) S (h F) hT
theorem ppe_int {i j pos} : PPE X (.Constant (.int i) j pos) (tC (.int i)) (pC (.int i)) := ⟨pe_int, snd_c fun _ => .int i⟩
theorem ppe_bl {b j pos} : PPE X (.Constant (.bool b) j pos) (tC (.bl b)) (pC (.bl b)) := ⟨pe_bl, snd_c fun _ => .bl b⟩
theorem ppe_non {j pos} : PPE X (.Constant .none j pos) (tC .non) (pC .non) := ⟨pe_non, snd_c fun _ => .non⟩
theorem ppe_str {x j pos} : PPE X (.Constant (.str x) j pos) (tC (.str x)) (pC (.str x)) := ⟨pe_str, snd_c fun _ => .str x⟩
abbrev F2 := D → D → (D → Prop) → Prop
abbrev F1 := D → (D → Prop) → Prop
def OpP (K : PySem.W.Frag) (r : R2) (f : F2) : Prop := ∀ (F H : Hp) (x y : V) (dx dy : D) (Q : D → Prop) (R : VK), Same F H → Rep K F x dx → Rep K F y dy → f dx dy Q →
  (∀ v d F' H', Res K F H v d F' H' → Q d → R v H') → r x y H R
def UnP (K : PySem.W.Frag) (r : V → Hp → VK → Prop) (f : F1) : Prop := ∀ (F H : Hp) (x : V) (dx : D) (Q : D → Prop) (R : VK), Same F H → Rep K F x dx → f dx Q →
  (∀ v d F' H', Res K F H v d F' H' → Q d → R v H') → r x H R
def CallP (K : PySem.W.Frag) (r : List V → Hp → VK → Prop) (f : List D → (D → Prop) → Prop) : Prop := ∀ (F H : Hp) (xs : List V) (ds : List D) (Q : D → Prop) (R : VK), Same F H → Reps K F xs ds → f ds Q →
  (∀ v d F' H', Res K F H v d F' H' → Q d → R v H') → r xs H R
def pOp (f : F2) (Ta Tb : TEp) : TEp := fun ρ Q => Ta ρ fun x ρ1 => Tb ρ1 fun y ρ2 => f x y fun z => Q z ρ2
def pUn (f : F1) (Ta : TEp) : TEp := fun ρ Q => Ta ρ fun x ρ1 => f x fun z => Q z ρ1
theorem snd_op {K : PySem.W.Frag} {r : R2} {f : F2} {ta tb : TE} {Ta Tb : TEp} (hp : OpP K r f) (ha : SndE K ta Ta) (hb : SndE K tb Tb) : SndE K (tOp r ta tb) (pOp f Ta Tb) := fun G F H σ ρ Q R S hT k =>
  ha G F H σ ρ _ _ S hT fun x dx F1 H1 ρ1 u1 S1 r1 h1 => hb G F1 H1 σ ρ1 _ _ S1 h1 fun y dy F2 H2 ρ2 u2 S2 r2 h2 =>
    hp F2 H2 x y dx dy _ _ S2.hF (r1.mono u2.ex) r2 h2 fun v d F3 H3 res q => by
      obtain ⟨u3, S3, r3⟩ := S2.res res
      exact k v d F3 H3 ρ2 ((u1.trans u2).trans u3) S3 r3 q
theorem snd_un {K : PySem.W.Frag} {r : V → Hp → VK → Prop} {f : F1} {ta : TE} {Ta : TEp} (hp : UnP K r f) (ha : SndE K ta Ta) : SndE K (tUn r ta) (pUn f Ta) := fun G F H σ ρ Q R S hT k =>
  ha G F H σ ρ _ _ S hT fun x dx F1 H1 ρ1 u1 S1 r1 h1 => hp F1 H1 x dx _ _ S1.hF r1 h1 fun v d F3 H3 res q => by
      obtain ⟨u3, S3, r3⟩ := S1.res res
      exact k v d F3 H3 ρ1 (u1.trans u3) S3 r3 q
variable {a b c : Expr} {ta tb tc : TE} {Ta Tb Tc : TEp} {pos : Pos}
theorem ppe_op {op : Operator} {r : R2} {f : F2} (ho : OpR X (binaryOp op) r) (hp : OpP X.K r f) (ha : PPE X a ta Ta) (hb : PPE X b tb Tb) : PPE X (.BinOp a op b pos) (tOp r ta tb) (pOp f Ta Tb) := ⟨pe_op ho ha.pe hb.pe, snd_op hp ha.snd hb.snd⟩
theorem ppe_un {op : UnaryOp} {r : V → Hp → VK → Prop} {f : F1} (ho : UnR X (unaryOp op) r) (hp : UnP X.K r f) (ha : PPE X a ta Ta) : PPE X (.UnaryOp op a pos) (tUn r ta) (pUn f Ta) := ⟨pe_un ho ha.pe, snd_un hp ha.snd⟩
theorem OpP.or {K : PySem.W.Frag} {r r' : R2} {f : F2} (h : ∀ (F H : Hp) (x y : V) (dx dy : D) (Q : D → Prop) (R : VK), Same F H → Rep K F x dx → Rep K F y dy → f dx dy Q →
  (∀ v d F' H', Res K F H v d F' H' → Q d → R v H') → r x y H R ∨ r' x y H R) : OpP K (fun x y H Q => r x y H Q ∨ r' x y H Q) f := h
def fAdd : F2 := fun x y Q => match x, y with
  | .int i, .int j => Q (.int (i + j))
  | .str i, .str j => i.length + j.length ≤ sizeLine ∧ Q (.str (i ++ j))
  | .lst xs, .lst ys => xs.length + ys.length ≤ sizeLine ∧ Q (.lst (xs ++ ys))
  | .tup xs, .tup ys => xs.length + ys.length ≤ sizeLine ∧ Q (.tup (xs ++ ys))
  | _, _ => False
def rAddA (K : PySem.W.Frag) : R2 := fun x y H Q => (rI0 (fun i j => .int (i + j)) x y H Q ∨ (∃ i j, x = .str i ∧ y = .str j ∧ i.length + j.length ≤ sizeLine ∧ Q (.str (i ++ j)) H)) ∨ (rCat x y H Q ∨ rCatA K x y H Q)
theorem opr_add : OpR X (binaryOp .Add) (rAddA X.K) := OpR.or (OpR.or op_add op_add_str) (OpR.or op_cat op_catA)
theorem opp_add : OpP X.K (rAddA X.K) fAdd := fun F H x y dx dy Q R hs rx ry hf k => by
  cases rx with
  | int i =>
    cases ry with
    | int j => exact .inl (.inl ⟨i, j, rfl, rfl, k _ _ _ _ (.old (.int _)) hf⟩)
    | _ => exact hf.elim
  | str i =>
    cases ry with
    | str j => exact .inl (.inr ⟨i, j, rfl, rfl, hf.1, k _ _ _ _ (.old (.str _)) hf.2⟩)
    | _ => exact hf.elim
  | lst h1 r1 =>
    cases ry with
    | lst h2 r2 =>
      refine .inr (.inl ⟨_, _, _, _, rfl, rfl, hs _ _ h1, hs _ _ h2, by rw [r1.length, r2.length]; exact hf.1, fun p hp => ?_⟩)
      have hn : F p = none := hs.free hp
      exact k _ _ _ _ (.new hp (.lst upd_same ((r1.mono (same_new hn)).append (r2.mono (same_new hn))))) hf.2
    | _ => exact hf.elim
  | @tup _ vs xs h1 r1 =>
    cases ry with
    | @tup _ ws ys h2 r2 =>
      refine .inr (.inr ⟨_, _, _, _, rfl, rfl, SqT.of (hs _ _ h1), SqT.of (hs _ _ h2), by rw [r1.length, r2.length]; exact hf.1, fun e => ?_, fun e e2 => ?_, fun e e2 p hp => ?_⟩)
      · have := r1.length; subst e; cases r1; exact k _ _ _ _ (.old (.tup h2 r2)) hf.2
      · subst e2; cases r2; refine k _ _ _ _ (.old (.tup h1 r1)) ?_; have := hf.2; simpa using this
      · have hn : F p = none := hs.free hp
        exact k _ _ _ _ (.new hp (.tup upd_same ((r1.mono (same_new hn)).append (r2.mono (same_new hn))))) hf.2
    | _ => exact hf.elim
  | non => exact hf.elim
  | bl _ => exact hf.elim
  | scr _ => exact hf.elim
  | adr _ => exact hf.elim
  | exc _ _ _ _ => exact hf.elim
def f2I (C : Int → Int → Prop) (g : Int → Int → D) : F2 := fun x y Q => match x, y with
  | .int i, .int j => C i j ∧ Q (g i j)
  | _, _ => False
def f2I0 (g : Int → Int → D) : F2 := fun x y Q => match x, y with
  | .int i, .int j => Q (g i j)
  | _, _ => False
theorem opp_I {C C' : Int → Int → Prop} {g : Int → Int → V} {g' : Int → Int → D} (hc : ∀ i j, C' i j → C i j) (h : ∀ F i j, Rep X.K F (g i j) (g' i j)) : OpP X.K (rI C g) (f2I C' g') := fun F H x y dx dy Q R hs rx ry hf k => by
  cases rx with
  | int i =>
    cases ry with
    | int j => exact ⟨i, j, rfl, rfl, hc _ _ hf.1, k _ _ _ _ (.old (h F i j)) hf.2⟩
    | _ => exact hf.elim
  | _ => exact hf.elim
theorem opp_I0 {g : Int → Int → V} {g' : Int → Int → D} (h : ∀ F i j, Rep X.K F (g i j) (g' i j)) : OpP X.K (rI0 g) (f2I0 g') := fun F H x y dx dy Q R hs rx ry hf k => by
  cases rx with
  | int i =>
    cases ry with
    | int j => exact ⟨i, j, rfl, rfl, k _ _ _ _ (.old (h F i j)) hf⟩
    | _ => exact hf.elim
  | _ => exact hf.elim
def fSub : F2 := f2I0 fun i j => .int (i - j)
def fMod : F2 := f2I (fun _ j => 0 < j) fun i j => .int (i % j)
def fDiv : F2 := f2I (fun _ j => 0 < j ∧ j < 2 ^ 64) fun i j => .int (i / j)
def fMulI : F2 := f2I CMul fun i j => .int (i * j)
theorem ppe_add (ha : PPE X a ta Ta) (hb : PPE X b tb Tb) : PPE X (.BinOp a .Add b pos) (tOp (rAddA X.K) ta tb) (pOp fAdd Ta Tb) := ppe_op opr_add opp_add ha hb
theorem ppe_sub (ha : PPE X a ta Ta) (hb : PPE X b tb Tb) : PPE X (.BinOp a .Sub b pos) (tOp (rI0 fun i j => .int (i - j)) ta tb) (pOp fSub Ta Tb) := ppe_op op_sub (opp_I0 fun _ _ _ => .int _) ha hb
theorem ppe_mul (ha : PPE X a ta Ta) (hb : PPE X b tb Tb) : PPE X (.BinOp a .Mult b pos) (tOp (rI CMul fun i j => .int (i * j)) ta tb) (pOp fMulI Ta Tb) := ppe_op op_mul (opp_I (fun _ _ h => h) fun _ _ _ => .int _) ha hb
theorem ppe_mod (ha : PPE X a ta Ta) (hb : PPE X b tb Tb) : PPE X (.BinOp a .Mod b pos) (tOp (rI (fun _ j => 0 < j) fun i j => .int (i % j)) ta tb) (pOp fMod Ta Tb) := ppe_op op_mod (opp_I (fun _ _ h => h) fun _ _ _ => .int _) ha hb
theorem ppe_div (ha : PPE X a ta Ta) (hb : PPE X b tb Tb) : PPE X (.BinOp a .FloorDiv b pos) (tOp (rI CDivW fun i j => .int (i / j)) ta tb) (pOp fDiv Ta Tb) :=
  ppe_op op_fdivW (opp_I (fun _ _ h => wide_div (b := 64) h.1 (by have := h.1; have := h.2; omega) (by decide) (by decide)) fun _ _ _ => .int _) ha hb
theorem ppe_powc {i j : Int} {u v pa pb} (n : Int) (h : 0 ≤ j ∧ j ≤ 1000000 ∧ i.natAbs < 2 ^ 64 := by decide) (hn : i ^ j.toNat = n := by decide) : PPE X (.BinOp (.Constant (.int i) u pa) .Pow (.Constant (.int j) v pb) pos) (tOp (rI CPow fun i j => .int (i ^ j.toNat)) (tC (.int i)) (tC (.int j))) (pC (.int n)) :=
  ⟨pe_op op_pow pe_int pe_int, fun G F H σ ρ Q R S hT k => ⟨i, j, rfl, rfl, h, by show R (V.int (i ^ j.toNat)) H; rw [hn]; exact k _ _ F H ρ (.refl _ _) S (.int n) hT⟩⟩
def fRep : F2 := fun x y Q => match x, y with
  | .lst xs, .int k => 0 ≤ k ∧ k ≤ 1000 ∧ xs.length ≤ 1000 ∧ Q (.lst (List.replicate k.toNat xs).flatten)
  | _, _ => False
theorem Reps.rep {K : PySem.W.Frag} {F : Hp} {vs : List V} {ds : List D} (h : Reps K F vs ds) : ∀ n : Nat, Reps K F (List.replicate n vs).flatten (List.replicate n ds).flatten
  | 0 => .nil
  | n + 1 => by
    rw [List.replicate_succ, List.replicate_succ, List.flatten_cons, List.flatten_cons]
    exact h.append (Reps.rep h n)
theorem ppe_rep (ha : PPE X a ta Ta) (hb : PPE X b tb Tb) : PPE X (.BinOp a .Mult b pos) (tOp rRep ta tb) (pOp fRep Ta Tb) := ppe_op op_rep (fun F H x y dx dy Q R hs rx ry hf k => by
  cases rx with
  | @lst a vs xs h1 r1 =>
    cases ry with
    | int n =>
      obtain ⟨f1, f2, f3, f4⟩ := hf
      refine ⟨_, _, _, rfl, rfl, hs _ _ h1, by omega, by omega, ?_, fun p hp => ?_⟩
      · have e1 : vs.length ≤ 1000 := by rw [r1.length]; exact f3
        have e2 : n.toNat ≤ 1000 := by omega
        exact Nat.le_trans (Nat.mul_le_mul e1 e2) (by decide)
      · have hn : F p = none := hs.free hp
        exact k _ _ _ _ (.new hp (.lst upd_same ((r1.mono (same_new hn)).rep n.toNat))) f4
    | _ => exact hf.elim
  | _ => exact hf.elim) ha hb
def fNeg : F1 := fun x Q => match x with
  | .int i => Q (.int (-i))
  | _ => False
theorem ppe_neg (ha : PPE X a ta Ta) : PPE X (.UnaryOp .USub a pos) (tUn (rU fun i => .int (-i)) ta) (pUn fNeg Ta) := ppe_un un_neg (fun F H x dx Q R hs rx hf k => by
  cases rx with
  | int i => exact ⟨i, rfl, k _ _ _ _ (.old (.int _)) hf⟩
  | _ => exact hf.elim) ha
mutual
def toPy : D → PyData
  | .non => .none
  | .bl b => .bool b
  | .int i => .int i
  | .str x => .str x
  | .lst xs => .list (toPys xs)
  | .tup xs => .tuple (toPys xs)
  | .scr ns => .list (ns.map PyData.int)
  | .adr _ => .dict []
  | .exc _ _ => .dict []
def toPys : List D → List PyData
  | [] => []
  | x :: xs => toPy x :: toPys xs
end
theorem dp_ints {K : PySem.W.Frag} {H : Hp} : ∀ ns : List Int, DpAll K H (ns.map V.int) (ns.map PyData.int)
  | [] => .nil
  | n :: ns => .cons (.int n) (dp_ints ns)
mutual
theorem Rep.dp0 {K : PySem.W.Frag} {F H : Hp} (e : Same F H) : ∀ {v : V} {d : D}, Rep K F v d → PyData.canLay0 (toPy d) = true → Dp K H v (toPy d)
  | _, _, .non, _ => by rw [toPy]; exact .non
  | _, _, .bl b, _ => by rw [toPy]; exact .bl b
  | _, _, .int i, _ => by rw [toPy]; exact .int i
  | _, _, .str x, _ => by rw [toPy]; exact .str x
  | _, _, .lst h r, c => by
    rw [toPy] at c ⊢
    rw [PyData.canLay0] at c
    exact .lst (SqL.of (e _ _ h)) (Reps.dp0 e r c)
  | _, _, .tup h r, c => by
    rw [toPy] at c ⊢
    rw [PyData.canLay0] at c
    exact .tup (SqT.of (e _ _ h)) (Reps.dp0 e r c)
  | _, _, .scr h, _ => by rw [toPy]; exact .lst (e.seq h) (dp_ints _)
  | _, _, .adr _, c => by rw [toPy, PyData.canLay0] at c; cases c
  | _, _, .exc _ _ _ _, c => by rw [toPy, PyData.canLay0] at c; cases c
theorem Reps.dp0 {K : PySem.W.Frag} {F H : Hp} (e : Same F H) : ∀ {vs : List V} {ds : List D}, Reps K F vs ds → PyData.canLayAll0 (toPys ds) = true → DpAll K H vs (toPys ds)
  | _, _, .nil, _ => by rw [toPys]; exact .nil
  | _, _, .cons h r, c => by
    rw [toPys] at c ⊢
    rw [PyData.canLayAll0, Bool.and_eq_true] at c
    exact .cons (Rep.dp0 e h c.1) (Reps.dp0 e r c.2)
end
theorem shaped_lay {d : PyData} (h : SeqAt.shaped d = true) : PyData.canLay0 d = true := by
  unfold SeqAt.shaped at h
  rw [Bool.and_eq_true] at h
  exact h.1
theorem Rep.dp {K : PySem.W.Frag} {F H : Hp} (e : Same F H) {v : V} {d : D} (r : Rep K F v d) (h : SeqAt.shaped (toPy d) = true) : Dp K H v (toPy d) := r.dp0 e (shaped_lay h)
def D.eqv (x y : D) : Bool := PyData.eqv (toPy x) (toPy y)
def D.sh (x : D) : Prop := SeqAt.shaped (toPy x) = true
def fEq : F2 := fun x y Q => x.sh ∧ y.sh ∧ Q (.bl (x.eqv y))
def fNe : F2 := fun x y Q => x.sh ∧ y.sh ∧ Q (.bl (!x.eqv y))
theorem opp_eq : OpP X.K (rEqD X.K) fEq := fun F H x y dx dy Q R hs rx ry hf k => ⟨_, _, rx.dp hs hf.1, ry.dp hs hf.2.1, hf.1, hf.2.1, k _ _ _ _ (.old (.bl _)) hf.2.2⟩
theorem opp_ne : OpP X.K (rNeD X.K) fNe := fun F H x y dx dy Q R hs rx ry hf k => ⟨_, _, rx.dp hs hf.1, ry.dp hs hf.2.1, hf.1, hf.2.1, k _ _ _ _ (.old (.bl _)) hf.2.2⟩
def fLt : F2 := f2I0 fun i j => .bl (decide (i < j))
def fLe : F2 := f2I0 fun i j => .bl (decide (i ≤ j))
def fGt : F2 := f2I0 fun i j => .bl (decide (j < i))
def fGe : F2 := f2I0 fun i j => .bl (decide (j ≤ i))
def D.isNon : D → Bool
  | .non => true
  | _ => false
def fIsN : F2 := fun x y Q => match y with | .non => Q (.bl x.isNon) | _ => False
def fNotN : F2 := fun x y Q => match y with | .non => Q (.bl (!x.isNon)) | _ => False
theorem ite_t {A B : Prop} (h : if true = true then A else B) : A := by simpa using h
theorem ite_f {A B : Prop} (h : if false = true then A else B) : B := by simpa using h
theorem ite_ti {A B : Prop} (h : A) : if true = true then A else B := by simpa using h
theorem ite_fi {A B : Prop} (h : B) : if false = true then A else B := by simpa using h
structure Cmp (X : Cx) (op : CmpOp) (r : R2) (f : F2) : Prop where
  op : OpR X (compareOp op) r
  pp : OpP X.K r f
theorem cm_lt : Cmp X .Lt (rI0 fun i j => .bl (decide (i < j))) fLt := ⟨op_lt, opp_I0 fun _ _ _ => .bl _⟩
theorem cm_le : Cmp X .LtE (rI0 fun i j => .bl (decide (i ≤ j))) fLe := ⟨op_le, opp_I0 fun _ _ _ => .bl _⟩
theorem cm_gt : Cmp X .Gt (rI0 fun i j => .bl (decide (j < i))) fGt := ⟨op_gt, opp_I0 fun _ _ _ => .bl _⟩
theorem cm_ge : Cmp X .GtE (rI0 fun i j => .bl (decide (j ≤ i))) fGe := ⟨op_ge, opp_I0 fun _ _ _ => .bl _⟩
theorem cm_eq (hu : X.A.units + 64 < cLine) : Cmp X .Eq (rEqD X.K) fEq := ⟨op_eqD hu, opp_eq⟩
theorem cm_ne (hu : X.A.units + 64 < cLine) : Cmp X .NotEq (rNeD X.K) fNe := ⟨op_neD hu, opp_ne⟩
theorem dec_non {K : PySem.W.Frag} {F : Hp} {v : V} {d : D} (r : Rep K F v d) : decide (v = .non) = d.isNon := by
  cases r <;> rfl
theorem cm_isN : Cmp X .Is (fun x y H Q => y = .non ∧ Q (.bl (decide (x = .non))) H) fIsN := ⟨op_isN, fun F H x y dx dy Q R hs rx ry hf k => by
  cases ry with
  | non => exact ⟨rfl, by rw [dec_non rx]; exact k _ _ _ _ (.old (.bl _)) hf⟩
  | _ => exact hf.elim⟩
theorem cm_notN : Cmp X .IsNot (fun x y H Q => y = .non ∧ Q (.bl (!decide (x = .non))) H) fNotN := ⟨op_notN, fun F H x y dx dy Q R hs rx ry hf k => by
  cases ry with
  | non => exact ⟨rfl, by rw [dec_non rx]; exact k _ _ _ _ (.old (.bl _)) hf⟩
  | _ => exact hf.elim⟩
theorem ppe_cmp {op : CmpOp} {r : R2} {f : F2} (hc : Cmp X op r f) (ha : PPE X a ta Ta) (hb : PPE X b tb Tb) (hm : behindInMarks op b = false) : PPE X (.Compare a [op] [b] pos) (tOp r ta tb) (pOp f Ta Tb) := ⟨pe_cmpR hc.op ha.pe hb.pe hm, snd_op hc.pp ha.snd hb.snd⟩
def pTest (T : TEp) : TTp := fun ρ Q => T ρ fun x ρ' => match x with | .bl k => Q k ρ' | _ => False
theorem snd_test {K : PySem.W.Frag} {t : TE} {T : TEp} (h : SndE K t T) : SndT K (tTest t) (pTest T) := fun G F H σ ρ Q R S hT k => h G F H σ ρ _ _ S hT fun v d F' H' ρ' u S' r q => by
  cases r with
  | bl b => exact ⟨b, rfl, k b F' H' ρ' u S' q⟩
  | _ => exact q.elim
theorem ppt_cmp {op : CmpOp} {r : R2} {f : F2} (hc : Cmp X op r f) (ha : PPE X a ta Ta) (hb : PPE X b tb Tb) (hm : behindInMarks op b = false) : PPT X (.Compare a [op] [b] pos) (tTest (tOp r ta tb)) (pTest (pOp f Ta Tb)) := ⟨pt_cmpR hc.op ha.pe hb.pe hm, snd_test (snd_op hc.pp ha.snd hb.snd)⟩
theorem ppt_val {e : Expr} {t : TE} {T : TEp} (h : PPE X e t T) (he : ∀ whole, isTrue e X.env whole = (do let v ← whole; standAt e.pos; holding [v] (truthy v)) := by intro _; rfl) : PPT X e (tB t) (pTest T) := ⟨pt_val h.pe he, snd_test h.snd⟩
variable {tA tB' : TT} {TA' TB' : TTp} {rest : List Expr}
def pAnd (T U : TTp) : TTp := fun ρ Q => T ρ fun c ρ1 => if c = true then U ρ1 Q else Q false ρ1
def pOr (T U : TTp) : TTp := fun ρ Q => T ρ fun c ρ1 => if c = true then Q true ρ1 else U ρ1 Q
def pNot (T : TTp) : TTp := fun ρ Q => T ρ fun c ρ1 => Q (!c) ρ1
theorem ppw_and1 (ha : PPT X a tA TA') : PPW X (.BoolOp .And [a] pos) tA TA' := ⟨pw_and1 ha.pt, ha.snd⟩
theorem ppw_or1 (ha : PPT X a tA TA') : PPW X (.BoolOp .Or [a] pos) tA TA' := ⟨pw_or1 ha.pt, ha.snd⟩
theorem ppw_and (ha : PPT X a tA TA') (hb : PPW X (.BoolOp .And (b :: rest) pos) tB' TB') : PPW X (.BoolOp .And (a :: b :: rest) pos) (tAnd tA tB') (pAnd TA' TB') := ⟨pw_and ha.pt hb.pw, fun G F H σ ρ Q R S hT k =>
  ha.snd G F H σ ρ _ _ S hT fun c F1 H1 ρ1 u1 S1 h1 => by
    cases c with
    | true => have h1 := ite_t h1; refine ite_ti ?_; exact hb.snd G F1 H1 σ ρ1 _ _ S1 h1 fun b F2 H2 ρ2 u2 S2 h2 => k b F2 H2 ρ2 (u1.trans u2) S2 h2
    | false => have h1 := ite_f h1; refine ite_fi ?_; exact k _ F1 H1 ρ1 u1 S1 h1⟩
theorem ppw_or (ha : PPT X a tA TA') (hb : PPW X (.BoolOp .Or (b :: rest) pos) tB' TB') : PPW X (.BoolOp .Or (a :: b :: rest) pos) (tOr tA tB') (pOr TA' TB') := ⟨pw_or ha.pt hb.pw, fun G F H σ ρ Q R S hT k =>
  ha.snd G F H σ ρ _ _ S hT fun c F1 H1 ρ1 u1 S1 h1 => by
    cases c with
    | false => have h1 := ite_f h1; refine ite_fi ?_; exact hb.snd G F1 H1 σ ρ1 _ _ S1 h1 fun b F2 H2 ρ2 u2 S2 h2 => k b F2 H2 ρ2 (u1.trans u2) S2 h2
    | true => have h1 := ite_t h1; refine ite_ti ?_; exact k _ F1 H1 ρ1 u1 S1 h1⟩
theorem PPW.ppt {e : Expr} {t : TT} {T : TTp} (h : PPW X e t T) : PPT X e t T := ⟨h.pw.pt, h.snd⟩
theorem ppt_not (ha : PPT X a tA TA') : PPT X (.UnaryOp .Not a pos) (tNot tA) (pNot TA') := ⟨pt_not ha.pt, fun G F H σ ρ Q R S hT k => ha.snd G F H σ ρ _ _ S hT fun c F1 H1 ρ1 u1 S1 h1 => k _ F1 H1 ρ1 u1 S1 h1⟩
def pAndV (Ta Tb : TEp) : TEp := fun ρ Q => Ta ρ fun x ρ1 => match x with | .bl c => if c = true then Tb ρ1 Q else Q (.bl false) ρ1 | _ => False
def pNotV (Ta : TEp) : TEp := fun ρ Q => Ta ρ fun x ρ1 => match x with | .bl c => Q (.bl (!c)) ρ1 | _ => False
theorem ppe_one {op} (h : PPE X a ta Ta) : PPE X (.BoolOp op [a] pos) ta Ta := ⟨pe_one h.pe, h.snd⟩
theorem ppe_and (ha : PPE X a ta Ta) (hb : PPE X (.BoolOp .And (b :: rest) pos) tb Tb) : PPE X (.BoolOp .And (a :: b :: rest) pos) (tAndV ta tb) (pAndV Ta Tb) := ⟨pe_and ha.pe hb.pe, fun G F H σ ρ Q R S hT k =>
  ha.snd G F H σ ρ _ _ S hT fun x dx F1 H1 ρ1 u1 S1 r1 h1 => by
    cases r1 with
    | bl c =>
      refine ⟨c, rfl, ?_⟩
      cases c with
      | true => have h1 := ite_t h1; refine ite_ti ?_; exact hb.snd G F1 H1 σ ρ1 _ _ S1 h1 fun v d F2 H2 ρ2 u2 S2 r2 h2 => k v d F2 H2 ρ2 (u1.trans u2) S2 r2 h2
      | false => have h1 := ite_f h1; refine ite_fi ?_; exact k _ _ F1 H1 ρ1 u1 S1 (.bl _) h1
    | _ => exact h1.elim⟩
theorem ppe_not (ha : PPE X a ta Ta) : PPE X (.UnaryOp .Not a pos) (tNotV ta) (pNotV Ta) := ⟨pe_not ha.pe, fun G F H σ ρ Q R S hT k =>
  ha.snd G F H σ ρ _ _ S hT fun x dx F1 H1 ρ1 u1 S1 r1 h1 => by
    cases r1 with
    | bl c => exact ⟨c, rfl, k _ _ F1 H1 ρ1 u1 S1 (.bl _) h1⟩
    | _ => exact h1.elim⟩
def pIf (T : TTp) (Ta Tb : TEp) : TEp := fun ρ Q => T ρ fun c ρ1 => if c = true then Ta ρ1 Q else Tb ρ1 Q
theorem ppe_ifExp {c : Expr} (hc : PPT X c tA TA') (ha : PPE X a ta Ta) (hb : PPE X b tb Tb) : PPE X (.IfExp c a b pos) (tIf tA ta tb) (pIf TA' Ta Tb) := ⟨pe_ifExp hc.pt ha.pe hb.pe, fun G F H σ ρ Q R S hT k =>
  hc.snd G F H σ ρ _ _ S hT fun c F1 H1 ρ1 u1 S1 h1 => by
    cases c with
    | true => have h1 := ite_t h1; refine ite_ti ?_; exact ha.snd G F1 H1 σ ρ1 _ _ S1 h1 fun v d F2 H2 ρ2 u2 S2 r2 h2 => k v d F2 H2 ρ2 (u1.trans u2) S2 r2 h2
    | false => have h1 := ite_f h1; refine ite_fi ?_; exact hb.snd G F1 H1 σ ρ1 _ _ S1 h1 fun v d F2 H2 ρ2 u2 S2 r2 h2 => k v d F2 H2 ρ2 (u1.trans u2) S2 r2 h2⟩
variable {e : Expr} {es : List Expr} {te : TE} {Te : TEp} {t : TA} {T : TAp}
def pNil : TAp := fun ρ Q => Q [] ρ
def pCons (Ta : TEp) (Tr : TAp) : TAp := fun ρ Q => Ta ρ fun x ρ1 => Tr ρ1 fun xs ρ2 => Q (x :: xs) ρ2
theorem ppa_nil : PPA X [] tNil pNil := ⟨pa_nil, fun G F H σ ρ Q R S hT k => k _ _ F H ρ (.refl _ _) S .nil hT⟩
theorem ppa_cons (ha : PPE X e te Te) (hr : PPA X es t T) (hs : starEach (e :: es) X.env = (false, eval e X.env) :: starEach es X.env := by rfl) : PPA X (e :: es) (tCons te t) (pCons Te T) := ⟨pa_cons ha.pe hr.pa hs, fun G F H σ ρ Q R S hT k =>
  ha.snd G F H σ ρ _ _ S hT fun v d F1 H1 ρ1 u1 S1 r1 h1 => hr.snd G F1 H1 σ ρ1 _ _ S1 h1 fun vs ds F2 H2 ρ2 u2 S2 r2 h2 => k _ _ F2 H2 ρ2 (u1.trans u2) S2 (.cons (r1.mono u2.ex) r2) h2⟩
def pTup (T : TAp) : TEp := fun ρ Q => T ρ fun xs ρ1 => xs.length ≤ sizeLine ∧ Q (.tup xs) ρ1
theorem ppe_tup {x1} (h : PPA X es t T) : PPE X (.Tuple es x1 pos) (tTup t) (pTup T) := ⟨pe_tup h.pa, fun G F H σ ρ Q R S hT k =>
  h.snd G F H σ ρ _ _ S hT fun vs ds F1 H1 ρ1 u1 S1 r1 h1 => ⟨by rw [r1.length]; exact h1.1, fun p hp => k _ _ _ _ ρ1 (u1.trans (S1.upNew hp)) (S1.new hp) (.tup upd_same (r1.mono (same_new (S1.freshF hp)))) h1.2⟩⟩
def pLst (T : TAp) : TEp := fun ρ Q => T ρ fun xs ρ1 => xs.length ≤ sizeLine ∧ Q (.lst xs) ρ1
theorem ppe_lst (h : PPA X es t T) : PPE X (.List es pos) (tLst t) (pLst T) := ⟨pe_lst h.pa, fun G F H σ ρ Q R S hT k =>
  h.snd G F H σ ρ _ _ S hT fun vs ds F1 H1 ρ1 u1 S1 r1 h1 => ⟨by rw [r1.length]; exact h1.1, fun p hp => k _ _ _ _ ρ1 (u1.trans (S1.upNew hp)) (S1.new hp) (.lst upd_same (r1.mono (same_new (S1.freshF hp)))) h1.2⟩⟩
def pLstO (T : TAp) : TCp := fun ρ Q => T ρ fun xs ρ1 => xs.length ≤ sizeLine ∧ ∀ a, Q (.own a xs) ρ1
theorem Sim.newOwn {K : PySem.W.Frag} {G F H : Hp} {σ : L2.St} {ρ : Ro} (S : Sim K G F H σ ρ) {p : Addr} {vs : List V} {xs : List D} (h : H p = none) (r : Reps K F vs xs) : Sim K G F (upd H p (.lst vs)) (σ ++ [some (.ref p)]) (ρ ++ [some (.own p xs)]) :=
  (S.more h).pushOwn upd_same (S.freshF h) (S.freshG h) (S.notOwn h) r
theorem ppc_lst (h : PPA X es t T) : PPC X (.List es pos) (tLst t) (pLstO T) := ⟨pe_lst h.pa, fun G F H σ ρ Q R S hT k =>
  h.snd G F H σ ρ _ _ S hT fun vs ds F1 H1 ρ1 u1 S1 r1 h1 => ⟨by rw [r1.length]; exact h1.1, fun p hp => k _ _ _ _ ρ1 u1 (S1.newOwn hp r1) (h1.2 p)⟩⟩
def pCB (f : List D → (D → Prop) → Prop) (T : TAp) : TEp := fun ρ Q => T ρ fun xs ρ1 => f xs fun z => Q z ρ1
theorem snd_cb {K : PySem.W.Frag} {r : List V → Hp → VK → Prop} {f : List D → (D → Prop) → Prop} (hp : CallP K r f) (h : SndA K t T) : SndE K (tCB r t) (pCB f T) := fun G F H σ ρ Q R S hT k =>
  h G F H σ ρ _ _ S hT fun vs ds F1 H1 ρ1 u1 S1 r1 h1 => hp F1 H1 vs ds _ _ S1.hF r1 h1 fun v d F2 H2 res q => by
    obtain ⟨u2, S2, r2⟩ := S1.res res
    exact k v d F2 H2 ρ1 (u1.trans u2) S2 r2 q
theorem ppe_callB {x : Str} {p : Pos} {id : String} {r : List V → Hp → VK → Prop} {f : List D → (D → Prop) → Prop} (hc : CallR X (.builtin id) r) (hp : CallP X.K r f) (hg : Gl X x) (hm : X.mg x = none) (hv : bootBuiltins x = some (.builtin id)) (ha : PPA X (e :: es) t T)
    (hn : x ≠ "__name__" := by decide) (hdb : (x == ("__debug__" : Str)) = false := by decide)
    (he : starEach (e :: es) X.env = (false, eval e X.env) :: starEach es X.env := by rfl) (hpl : (backTo pos (starEach es X.env)).any (·.1) = false := by rfl) : PPE X (.Call (.Name x p) (e :: es) [] pos) (tCB r t) (pCB f T) := ⟨pe_callB hc hg hm hv ha.pa hn hdb he hpl, snd_cb hp ha.snd⟩
theorem ppe_callTy {x : Str} {p : Pos} {id : String} {r : List V → Hp → VK → Prop} {f : List D → (D → Prop) → Prop} (hc : CallR X (.type id) r) (hp : CallP X.K r f) (hg : Gl X x) (hm : X.mg x = none) (hv : bootBuiltins x = some (.type id)) (ha : PPA X (e :: es) t T)
    (hn : x ≠ "__name__" := by decide) (hdb : (x == ("__debug__" : Str)) = false := by decide)
    (he : starEach (e :: es) X.env = (false, eval e X.env) :: starEach es X.env := by rfl) (hpl : (backTo pos (starEach es X.env)).any (·.1) = false := by rfl) : PPE X (.Call (.Name x p) (e :: es) [] pos) (tCB r t) (pCB f T) := ⟨pe_callTy hc hg hm hv ha.pa hn hdb he hpl, snd_cb hp ha.snd⟩
end
end Pl
namespace Pl
open PySem PySem.Spec PyProof.Rows L2
open PySem.W (AlikeAll minD maxD minD_ints maxD_ints min_list_data min_tuple_data max_list_data max_tuple_data min_list_default max_list_default)
theorem places_rev (n : Nat) : Builtin.Slice.slicePlaces ((n : Int) - 1) (-1) (-1) = n := by
  unfold Builtin.Slice.slicePlaces
  by_cases h : n = 0
  · subst h; rfl
  · first
    | (simp; omega)
    | (simp only [show ¬ ((-1 : Int) > 0) by decide, if_false]; split <;> omega)
theorem adjust_rev (n : Nat) : Builtin.Slice.sliceAdjust none none (-1) (n : Int) = ((n : Int) - 1, -1) := by
  first
  | rfl
  | simp [Builtin.Slice.sliceAdjust]
theorem pick_rev (xs : Array Value) : ((List.range xs.size).filterMap fun (m : Nat) => xs[(((xs.size : Int) - 1) + (m : Int) * (-1)).toNat]?).toArray = xs.toList.reverse.toArray := by
  have e : ((List.range xs.size).filterMap fun (m : Nat) => xs[(((xs.size : Int) - 1) + (m : Int) * (-1)).toNat]?) = ((List.range xs.size).map fun k => xs.size - 1 - k).filterMap (xs[·]?) := by
    rw [List.filterMap_map]
    have g : ∀ l : List Nat, (l.filterMap fun (m : Nat) => xs[(((xs.size : Int) - 1) + (m : Int) * (-1)).toNat]?) = l.filterMap ((fun x => xs[x]?) ∘ fun k => xs.size - 1 - k) := fun l => by
      congr 1
      funext m
      show xs[(((xs.size : Int) - 1) + (m : Int) * (-1)).toNat]? = xs[xs.size - 1 - m]?
      rw [show (((xs.size : Int) - 1) + (m : Int) * (-1)).toNat = xs.size - 1 - m by omega]
    exact g _
  rw [e, PySem.W.krv_range, List.filterMap_reverse, PySem.W.krv_all]
section
variable {prog : Program} {w : World} {A : Around} {E : Value → Shared → Prop} {s : Shared}
theorem getItem_tuple_rev {t sl : Addr} {items : Array Value} {vl vu vs : Value} {Q : Value → Shared → Prop} (ht : IsTup s.heap t items) (hs : s.heap.IsSliceOf sl vl vu vs) (pl : IsPart vl none) (pu : IsPart vu none) (ps : IsPart vs (some (-1)))
    (h : Q (.ref s.heap.objs.size) { s with heap := s.heap.push { cls := .type "tuple", data := .seq items.toList.reverse.toArray } })
    (hsz : items.size ≤ sizeLine) : wpAny (model prog w) A (getItem (.ref t) (.ref sl)) Q E s := by
  have htake : sizeOk (.seq items.toList.reverse.toArray) := by
    show items.toList.reverse.toArray.size ≤ sizeLine
    rw [List.size_toArray, List.length_reverse, Array.length_toList]
    omega
  obtain ⟨os, hos, hcs, hds⟩ := id hs
  have hTs : s.TypeIs (.ref sl) "slice" := ⟨os, hos, hcs⟩
  unfold getItem
  try with_reducible refine wpAny_holding ?_
  first | refine wpAny_bind (wpAny_pure ?_) | skip
  refine wpAny_bind (wpAny_sequenceKey ht.typeIs (by decide) ?_)
  refine wpAny_bind (wpAny_callSpecial?_slot (name := Str.ofString "__getitem__") ht.typeIs PyProof.Rows.slot_tuple_getitem
    (wpAny_call_entry PyProof.Rows.slot_tuple_getitem ht.typeIs entry_tuple_getitem ?_ (args_tuple_getitem _ _)))
  show wpAny _ _ (Builtin.Tuple.tupleItemsOf (.ref t) >>= _) _ _ s
  refine wpAny_bind (tupleItemsOf_ ht ?_)
  refine wpAny_bind (wpAny_typeOf hTs ?_)
  rw [if_pos (by decide)]
  have applied : ∀ {Q : Int × Int × Nat → Shared → Prop} {A' : Around} {E' : Value → Shared → Prop}, Q ((items.size : Int) - 1, -1, items.size) s → wpAny (model prog w) A' (Builtin.Slice.sliceApplied (.ref sl) (pure (items.size : Int))) Q E' s := by
    intro Q A' E' h
    unfold Builtin.Slice.sliceApplied Builtin.Slice.sliceFields
    refine wpAny_bind (wpAny_bind (wpAny_field hos hds (x := vl) rfl (wpAny_bind (wpAny_field hos hds (x := vu) rfl (wpAny_bind (wpAny_field hos hds (x := vs) rfl (wpAny_pure ?_)))))))
    refine wpAny_bind (HT.slicePart_ ps ?_)
    show wpAny _ _ (if ((-1 : Int) == 0) = true then _ else _) _ _ s
    rw [if_neg (by decide)]
    refine wpAny_bind (HT.slicePart_ pl (wpAny_bind (HT.slicePart_ pu (wpAny_bind (wpAny_pure ?_)))))
    show wpAny _ _ (match Builtin.Slice.sliceAdjust none none (-1) (items.size : Int) with | (lo, hi) => pure (lo, (-1 : Int), Builtin.Slice.slicePlaces lo hi (-1))) _ _ s
    rw [adjust_rev]
    show wpAny _ _ (pure ((items.size : Int) - 1, (-1 : Int), Builtin.Slice.slicePlaces ((items.size : Int) - 1) (-1) (-1))) _ _ s
    rw [places_rev]
    exact wpAny_pure h
  refine wpAny_bind (applied ?_)
  have hno : ¬ ((((items.size : Int) - 1) == 0 && (-1 : Int) == 1 && items.size == items.size) = true) := by
    intro q
    rw [Bool.and_eq_true, Bool.and_eq_true] at q
    exact absurd q.1.2 (by decide)
  show wpAny _ _ (if (((items.size : Int) - 1) == 0 && (-1 : Int) == 1 && items.size == items.size) = true then _ else _) _ _ s
  rw [if_neg hno, pick_rev]
  first
    | exact wpAny_bind (m := Builtin.Tuple.tupleExact _) (wpAny_newObj_type (wpAny_pure ⟨_, rfl, wpAny_pure h⟩) htake)
    | exact wpAny_bind (m := Builtin.Tuple.tupleExact _) (wpAny_newObj_type (wpAny_bind (wpAny_pure (wpAny_pure ⟨_, rfl, wpAny_pure h⟩))) htake)
    | exact wpAny_bind (wpAny_bind (m := Builtin.Tuple.tupleExact _) (wpAny_newObj_type (wpAny_pure (wpAny_pure ⟨_, rfl, wpAny_pure h⟩)) htake))
    | exact wpAny_bind (wpAny_bind (m := Builtin.Tuple.tupleExact _) (wpAny_newObj_type (wpAny_pure ⟨_, rfl, wpAny_pure h⟩) htake))
end
section
variable {X : Cx}
def tRevA (K : PySem.W.Frag) (te : TE) : TE := fun σ H Q => te σ H fun x H1 => ∃ a xs, x = .ref a ∧ ((SqL K H1 a xs ∧ ∀ p, H1 p = none → Q (.ref p) (upd H1 p (.lst xs.reverse))) ∨ (SqT K H1 a xs ∧ ∀ p, H1 p = none → Q (.ref p) (upd H1 p (.tup xs.reverse))))
theorem pe_revA {e : Expr} {te : TE} {k : Nat} {p1 p2 p3 pos : Pos} (he : PE X e te) : PE X (.Subscript e (.Slice none none (some (.UnaryOp .USub (.Constant (.int 1) k p1) p2)) p3) pos) (tRevA X.K te) := by
  refine ⟨fun pins s σ H Q I h => ?_⟩
  refine Subscript_ (thn (he.run pins s σ H _ I h) fun v s1 ⟨x, H1, I1, r1, q1⟩ => ?_)
  obtain ⟨a, xs, ex, hx⟩ := q1
  subst ex
  cases r1
  have hst : PO X (some (.UnaryOp .USub (.Constant (.int 1) k p1) p2)) (tPart (tUn (rU fun i => .int (-i)) (tC (.int 1)))) := po_some (pe_un un_neg pe_int)
  refine wpAny_Slice (thn (po_none.run pins s1 σ H1 (fun o H2 => o = none ∧ H2 = H1) I1 ⟨rfl, rfl⟩) fun vl s2 ⟨l, H2, I2, pl, el, e2⟩ => ?_)
  subst el e2
  refine thn (po_none.run pins s2 σ H2 (fun o H3 => o = none ∧ H3 = H2) I2 ⟨rfl, rfl⟩) fun vu s3 ⟨u, H3, I3, pu, eu, e3⟩ => ?_
  subst eu e3
  refine thn (hst.run pins s3 σ H3 (fun o H4 => o = some (-1) ∧ H4 = H3) I3 ⟨1, rfl, -1, rfl, rfl, rfl⟩) fun vs s4 ⟨o, H4, I4, ps, eo, e4⟩ => ?_
  subst eo e4
  have I5 : Inv X pins σ H4 { s4 with heap := s4.heap.push { cls := .type "slice", data := .fields #[vl, vu, vs] } } := I4.kept (t' := s4.toks) fun b ob q => Heap.get?_push_of_some _ q
  show wpAny (model X.prog X.w) X.A (subscriptTail e (.Slice none none (some (.UnaryOp .USub (.Constant (.int 1) k p1) p2)) p3) (.ref a) (.ref s4.heap.objs.size)) (EP X pins σ Q) X.xe { s4 with heap := s4.heap.push { cls := .type "slice", data := .fields #[vl, vu, vs] } }
  rcases hx with ⟨hx, q⟩ | ⟨hx, q⟩
  · obtain ⟨its, r, ht, hz⟩ := I5.list hx
    have hlen := r.length
    refine tail_any (ops := [.ref a, .ref s4.heap.objs.size]) ht.isList.typeIs (PySem.slot_list_getitem.lookup) ?_ (by with_unfolding_all rfl)
    refine wpAny_getItem_list_slice ht.isList (Heap.IsSliceOf.new _ vl vu vs) pl pu ps (by decide) ?_ (by rw [List.size_toArray]; omega)
    rw [PySem.W.krv_pick]
    refine ⟨.ref _, _, I5.laid (t' := s4.toks) (o := .lst xs.reverse) (fun b ob q => Heap.get?_push_of_some _ q) (Nat.le_refl _) ?_, rfl, q _ (I5.hok.fresh (Nat.le_refl _))⟩
    exact ⟨by rw [List.length_reverse]; exact hz, _, 0, r.reverse, Heap.get?_push_size _ rfl⟩
  · obtain ⟨its, r, ht, hz⟩ := I5.tuple hx
    have hlen := r.length
    refine tail_any (ops := [.ref a, .ref s4.heap.objs.size]) ht.typeIs (PyProof.Rows.slot_tuple_getitem.lookup) ?_ (by with_unfolding_all rfl)
    refine getItem_tuple_rev ht (Heap.IsSliceOf.new _ vl vu vs) pl pu ps ?_ (by rw [List.size_toArray]; omega)
    refine ⟨.ref _, _, I5.laid (t' := s4.toks) (o := .tup xs.reverse) (fun b ob q => Heap.get?_push_of_some _ q) (Nat.le_refl _) ?_, rfl, q _ (I5.hok.fresh (Nat.le_refl _))⟩
    exact ⟨by rw [List.length_reverse]; exact hz, _, r.reverse, ⟨_, Heap.get?_push_size _ rfl, rfl, _, rfl⟩⟩
theorem alike_ints (ns : List Int) : AlikeAll (ns.map PyData.int) := ⟨fun x hx y hy => by
  obtain ⟨i, _, rfl⟩ := List.mem_map.mp hx
  obtain ⟨j, _, rfl⟩ := List.mem_map.mp hy
  rfl, fun x hx => by
  obtain ⟨i, _, rfl⟩ := List.mem_map.mp hx
  simp⟩
theorem depth_ints : ∀ ns : List Int, PyData.depthAll (ns.map PyData.int) = 0
  | [] => rfl
  | n :: ns => by
    show max (PyData.depth (.int n)) (PyData.depthAll (ns.map PyData.int)) = 0
    rw [depth_ints ns]; rfl
theorem reads_vals {h : Heap} : ∀ {ns : List Int} {us : List Value}, Vals (ns.map V.int) us → ∃ as, ReadsAll h us (ns.map PyData.int) as
  | [], _, .nil => ⟨_, .nil⟩
  | n :: ns, _, .cons r t => by
    obtain ⟨tk, rfl⟩ := r
    obtain ⟨as, q⟩ := reads_vals (h := h) t
    exact ⟨_, .cons (.int _ _) q⟩
theorem reads_int {h : Heap} {v : Value} {n : Int} {bs : List Addr} (r : Reads h v (.int n) bs) : ∃ t, v = .int n t := by
  cases r; exact ⟨_, rfl⟩
def SqI (K : PySem.W.Frag) (H : Hp) (a : Addr) (ns : List Int) : Prop := SqL K H a (ns.map V.int) ∨ SqT K H a (ns.map V.int)
def rBest (K : PySem.W.Frag) (g : Int → Int → Int) : List V → Hp → VK → Prop := fun vs H Q => ∃ (a : Addr) (n : Int) (ns : List Int), vs = [V.ref a] ∧ SqI K H a (n :: ns) ∧ Q (.int (ns.foldl g n)) H
theorem cr_minA (hc : X.calm = true) (hu : X.A.units + 64 < cLine) : CallR X (.builtin "min") (rBest X.K min) := by
  intro pins s σ H vs us Q I r h
  obtain ⟨a, n, ns, rfl, hs, q⟩ := h
  rw [Vals.ref1 r]
  have hd : X.A.units + 1 + PyData.depthAll (.int n :: ns.map PyData.int) < cLine := by
    rw [show (PyData.int n :: ns.map PyData.int) = (n :: ns).map PyData.int from rfl, depth_ints]; omega
  have fin : ∀ (v : Value) (h' : Heap) (tk : Nat) (bs : List Addr), Reads h' v (minD (.int n) (ns.map PyData.int)) bs → (∀ b o, s.heap.get? b = some o → h'.get? b = some o) → EP X pins σ Q v { s with heap := h', toks := tk } := fun v h' tk bs r k => by
    rw [minD_ints] at r
    obtain ⟨t, rfl⟩ := reads_int r
    exact ⟨.int _, H, I.kept k, ⟨_, rfl⟩, q⟩
  rcases hs with hs | hs
  · obtain ⟨its, rv, hl, _⟩ := I.list hs
    obtain ⟨as, ra⟩ := reads_vals (h := s.heap) rv
    exact min_list_data (I.ok.hd hc) hl.isList ra (alike_ints (n :: ns)) hd fun i v h' tk bs _ r k => fin v h' tk bs r k
  · obtain ⟨its, rv, hl, _⟩ := I.tuple hs
    obtain ⟨as, ra⟩ := reads_vals (h := s.heap) rv
    exact min_tuple_data (I.ok.hd hc) (show s.heap.IsTuple a its.toArray from hl) ra (alike_ints (n :: ns)) hd fun i v h' tk bs _ r k => fin v h' tk bs r k
theorem cr_maxA (hc : X.calm = true) (hu : X.A.units + 64 < cLine) : CallR X (.builtin "max") (rBest X.K max) := by
  intro pins s σ H vs us Q I r h
  obtain ⟨a, n, ns, rfl, hs, q⟩ := h
  rw [Vals.ref1 r]
  have hd : X.A.units + 1 + PyData.depthAll (.int n :: ns.map PyData.int) < cLine := by
    rw [show (PyData.int n :: ns.map PyData.int) = (n :: ns).map PyData.int from rfl, depth_ints]; omega
  have fin : ∀ (v : Value) (h' : Heap) (tk : Nat) (bs : List Addr), Reads h' v (maxD (.int n) (ns.map PyData.int)) bs → (∀ b o, s.heap.get? b = some o → h'.get? b = some o) → EP X pins σ Q v { s with heap := h', toks := tk } := fun v h' tk bs r k => by
    rw [maxD_ints] at r
    obtain ⟨t, rfl⟩ := reads_int r
    exact ⟨.int _, H, I.kept k, ⟨_, rfl⟩, q⟩
  rcases hs with hs | hs
  · obtain ⟨its, rv, hl, _⟩ := I.list hs
    obtain ⟨as, ra⟩ := reads_vals (h := s.heap) rv
    exact max_list_data (I.ok.hd hc) hl.isList ra (alike_ints (n :: ns)) hd fun i v h' tk bs _ r k => fin v h' tk bs r k
  · obtain ⟨its, rv, hl, _⟩ := I.tuple hs
    obtain ⟨as, ra⟩ := reads_vals (h := s.heap) rv
    exact max_tuple_data (I.ok.hd hc) (show s.heap.IsTuple a its.toArray from hl) ra (alike_ints (n :: ns)) hd fun i v h' tk bs _ r k => fin v h' tk bs r k
def bestD (g : Int → Int → Int) (d : V) : List Int → V
  | [] => d
  | n :: ns => .int (ns.foldl g n)
def tDflt (K : PySem.W.Frag) (g : Int → Int → Int) (te td : TE) : TE := fun σ H Q => te σ H fun x H1 => td σ H1 fun d H2 => ∃ a ns, x = .ref a ∧ SqL K H2 a (ns.map V.int) ∧ Q (bestD g d ns) H2
theorem pe_maxDflt {e d : Expr} {te td : TE} {p pos kp : Pos} (hg : Gl X "max") (hm : X.mg "max" = none) (hc : X.calm = true) (hu : X.A.units + 64 < cLine) (he : PE X e te) (hd : PE X d td)
    (hs : starEach [e] X.env = [(false, eval e X.env)] := by rfl) :
    PE X (.Call (.Name "max" p) [e] [⟨some "default", d, kp⟩] pos) (tDflt X.K max te td) := by
  refine ⟨fun pins s σ H Q I h => ?_⟩
  refine wpAny_Call_Name_kw (ld_blt (u := .builtin "max") I hg hm (by decide +kernel) ?_)
  refine callWith_kw (id := "max") ?_ (by rw [hs]; rfl) (by rw [hs]; rfl)
  have ha : PA X [e] (tCons te tNil) := pa_cons he pa_nil (by rw [hs]; rfl)
  have hk : PK X [⟨some "default", d, kp⟩] (tCons td tNil) := pk_cons hd pk_nil
  refine thn (ha.run pos pins s σ H (fun vs H1 => td σ H1 fun d H2 => ∃ a ns, vs = [.ref a] ∧ SqL X.K H2 a (ns.map V.int) ∧ Q (bestD max d ns) H2) I ?_) fun us s1 ⟨vs, H1, I1, r1, q1⟩ => ?_
  · show te σ H _
    have e : (fun (x : V) (H1 : Hp) => tNil σ H1 fun xs H2 => td σ H2 fun d H3 => ∃ a ns, (x :: xs) = [V.ref a] ∧ SqL X.K H3 a (ns.map V.int) ∧ Q (bestD max d ns) H3) = fun (x : V) (H1 : Hp) => td σ H1 fun d H2 => ∃ a ns, x = .ref a ∧ SqL X.K H2 a (ns.map V.int) ∧ Q (bestD max d ns) H2 := by
      funext x H1
      show (td σ H1 fun d H3 => ∃ a ns, [x] = [V.ref a] ∧ SqL X.K H3 a (ns.map V.int) ∧ Q (bestD max d ns) H3) = _
      congr 1
      funext d H3
      simp
    rw [e]
    exact h
  · refine thn (hk.run pos pins s1 σ H1 (fun zs H2 => ∃ d a ns, zs = [d] ∧ vs = [.ref a] ∧ SqL X.K H2 a (ns.map V.int) ∧ Q (bestD max d ns) H2) I1 ?_) fun ws s2 ⟨zs, H2, I2, r2, q2⟩ => ?_
    · show td σ H1 _
      have e : (fun (x : V) (H2 : Hp) => tNil σ H2 fun xs H3 => ∃ d a ns, (x :: xs) = [d] ∧ vs = [V.ref a] ∧ SqL X.K H3 a (ns.map V.int) ∧ Q (bestD max d ns) H3) = fun (d : V) (H2 : Hp) => ∃ a ns, vs = [V.ref a] ∧ SqL X.K H2 a (ns.map V.int) ∧ Q (bestD max d ns) H2 := by
        funext x H2
        show (∃ d a ns, [x] = [d] ∧ vs = [V.ref a] ∧ SqL X.K H2 a (ns.map V.int) ∧ Q (bestD max d ns) H2) = _
        simp
      rw [e]
      exact q1
    · obtain ⟨d, a, ns, rfl, rfl, hL, q⟩ := q2
      obtain ⟨w, rfl, rw'⟩ := vals1 r2
      rw [Vals.ref1 r1]
      obtain ⟨its, rv, hl, _⟩ := I2.list hL
      obtain ⟨as, ra⟩ := reads_vals (h := s2.heap) rv
      refine max_list_default (I2.ok.hd hc) hl.isList ra (alike_ints ns) (by rw [depth_ints]; omega) (fun e h' tk k => ?_) fun y ys i v h' tk bs e _ r k => ?_
      · have e' : ns = [] := by cases ns with | nil => rfl | cons _ _ => cases e
        subst e'
        exact ⟨d, H2, I2.kept k, rw', q⟩
      · cases ns with
        | nil => cases e
        | cons n ns =>
          cases e
          rw [maxD_ints] at r
          obtain ⟨t, rfl⟩ := reads_int r
          exact ⟨.int _, H2, I2.kept k, ⟨_, rfl⟩, q⟩
theorem pe_minDflt {e d : Expr} {te td : TE} {p pos kp : Pos} (hg : Gl X "min") (hm : X.mg "min" = none) (hc : X.calm = true) (hu : X.A.units + 64 < cLine) (he : PE X e te) (hd : PE X d td)
    (hs : starEach [e] X.env = [(false, eval e X.env)] := by rfl) :
    PE X (.Call (.Name "min" p) [e] [⟨some "default", d, kp⟩] pos) (tDflt X.K min te td) := by
  refine ⟨fun pins s σ H Q I h => ?_⟩
  refine wpAny_Call_Name_kw (ld_blt (u := .builtin "min") I hg hm (by decide +kernel) ?_)
  refine callWith_kw (id := "min") ?_ (by rw [hs]; rfl) (by rw [hs]; rfl)
  have ha : PA X [e] (tCons te tNil) := pa_cons he pa_nil (by rw [hs]; rfl)
  have hk : PK X [⟨some "default", d, kp⟩] (tCons td tNil) := pk_cons hd pk_nil
  refine thn (ha.run pos pins s σ H (fun vs H1 => td σ H1 fun d H2 => ∃ a ns, vs = [.ref a] ∧ SqL X.K H2 a (ns.map V.int) ∧ Q (bestD min d ns) H2) I ?_) fun us s1 ⟨vs, H1, I1, r1, q1⟩ => ?_
  · show te σ H _
    have e : (fun (x : V) (H1 : Hp) => tNil σ H1 fun xs H2 => td σ H2 fun d H3 => ∃ a ns, (x :: xs) = [V.ref a] ∧ SqL X.K H3 a (ns.map V.int) ∧ Q (bestD min d ns) H3) = fun (x : V) (H1 : Hp) => td σ H1 fun d H2 => ∃ a ns, x = .ref a ∧ SqL X.K H2 a (ns.map V.int) ∧ Q (bestD min d ns) H2 := by
      funext x H1
      show (td σ H1 fun d H3 => ∃ a ns, [x] = [V.ref a] ∧ SqL X.K H3 a (ns.map V.int) ∧ Q (bestD min d ns) H3) = _
      congr 1
      funext d H3
      simp
    rw [e]
    exact h
  · refine thn (hk.run pos pins s1 σ H1 (fun zs H2 => ∃ d a ns, zs = [d] ∧ vs = [.ref a] ∧ SqL X.K H2 a (ns.map V.int) ∧ Q (bestD min d ns) H2) I1 ?_) fun ws s2 ⟨zs, H2, I2, r2, q2⟩ => ?_
    · show td σ H1 _
      have e : (fun (x : V) (H2 : Hp) => tNil σ H2 fun xs H3 => ∃ d a ns, (x :: xs) = [d] ∧ vs = [V.ref a] ∧ SqL X.K H3 a (ns.map V.int) ∧ Q (bestD min d ns) H3) = fun (d : V) (H2 : Hp) => ∃ a ns, vs = [V.ref a] ∧ SqL X.K H2 a (ns.map V.int) ∧ Q (bestD min d ns) H2 := by
        funext x H2
        show (∃ d a ns, [x] = [d] ∧ vs = [V.ref a] ∧ SqL X.K H2 a (ns.map V.int) ∧ Q (bestD min d ns) H2) = _
        simp
      rw [e]
      exact q1
    · obtain ⟨d, a, ns, rfl, rfl, hL, q⟩ := q2
      obtain ⟨w, rfl, rw'⟩ := vals1 r2
      rw [Vals.ref1 r1]
      obtain ⟨its, rv, hl, _⟩ := I2.list hL
      obtain ⟨as, ra⟩ := reads_vals (h := s2.heap) rv
      refine min_list_default (I2.ok.hd hc) hl.isList ra (alike_ints ns) (by rw [depth_ints]; omega) (fun e h' tk k => ?_) fun y ys i v h' tk bs e _ r k => ?_
      · have e' : ns = [] := by cases ns with | nil => rfl | cons _ _ => cases e
        subst e'
        exact ⟨d, H2, I2.kept k, rw', q⟩
      · cases ns with
        | nil => cases e
        | cons n ns =>
          cases e
          rw [minD_ints] at r
          obtain ⟨t, rfl⟩ := reads_int r
          exact ⟨.int _, H2, I2.kept k, ⟨_, rfl⟩, q⟩
end
end Pl
namespace Pl
open PySem PySem.Spec PyProof.Rows L2
def SqK (K : PySem.W.Frag) (k : Bool) (H : Hp) (a : Addr) (xs : List V) : Prop := match k with
  | true => SqL K H a xs
  | false => SqT K H a xs
def ItK (k : Bool) (h : Heap) (it a : Addr) (i : Nat) : Prop := match k with
  | true => h.IsListIter it a i
  | false => h.IsTupleIter it a i
def IsK (k : Bool) (h : Heap) (a : Addr) (items : Array Value) : Prop := match k with
  | true => h.IsList a items
  | false => h.IsTuple a items
def objK (k : Bool) (l : Addr) : Obj := match k with
  | true => { cls := .type "list_iterator", data := .fields #[.ref l, .int 0 0] }
  | false => { cls := .type "tuple_iterator", data := .fields #[.ref l, .int 0 0] }
theorem drawsK {prog : Program} {w : World} {A : Around} (hh : A.handled = none) (k : Bool) (it l : Addr) (hne : l ≠ it) (items : Array Value) :
    Draws prog w A it [it, l] items.size (fun i v => items[i]? = some v) (fun i h => ItK k h it l i ∧ IsK k h l items) := by
  cases k with
  | true => exact Draws.list hh it l hne items
  | false => exact Draws.tuple hh it l hne items
theorem beginsK (k : Bool) (l : Addr) (items : Array Value) : Begins (.ref l) (objK k l) fun h => IsK k h l items := by
  cases k with
  | true => exact begins_list l items
  | false => exact begins_tuple l items
theorem itK_new {k : Bool} {h : Heap} {it l : Addr} (e : h.get? it = some (objK k l)) : ItK k h it l 0 := by
  cases k with
  | true => exact ⟨_, e, rfl, rfl⟩
  | false => exact ⟨_, e, rfl, rfl⟩
theorem ItK.obj {k : Bool} {h : Heap} {it l : Addr} {i : Nat} (x : ItK k h it l i) : ∃ o, h.get? it = some o ∧ ∀ v, o.data ≠ .cell v := by
  cases k with
  | true => obtain ⟨o, e, _, d⟩ := x; exact ⟨o, e, fun v q => by rw [d] at q; cases q⟩
  | false => obtain ⟨o, e, _, d⟩ := x; exact ⟨o, e, fun v q => by rw [d] at q; cases q⟩
theorem ItK.at {k : Bool} {h h' : Heap} {it l : Addr} {i : Nat} (x : ItK k h it l i) (e : ∀ o, h.get? it = some o → h'.get? it = some o) : ItK k h' it l i := by
  cases k with
  | true => obtain ⟨o, q, r⟩ := x; exact ⟨o, e o q, r⟩
  | false => obtain ⟨o, q, r⟩ := x; exact ⟨o, e o q, r⟩
section
variable {X : Cx} {pins : List (Addr × Obj)} {σ : L2.St} {H : Hp} {s : Shared} {a : Addr} {xs ys : List V} {k : Bool}
theorem invK (I : Inv X pins σ H s) (h : SqK X.K k H a xs) : ∃ its : List Value, Vals xs its ∧ IsK k s.heap a its.toArray ∧ xs.length ≤ sizeLine ∧ a < s.heap.objs.size := by
  cases k with
  | true =>
    obtain ⟨its, r, p, z⟩ := I.list h
    exact ⟨its, r, p.isList, z, p.lt⟩
  | false =>
    obtain ⟨its, r, p, z⟩ := I.tuple h
    exact ⟨its, r, p, z, p.lt⟩
theorem invK_inj (I : Inv X pins σ H s) (h : SqK X.K k H a xs) (h' : SqK X.K k H a ys) : xs = ys := by
  cases k with
  | true => exact I.list_inj h h'
  | false => exact I.tuple_inj h h'
end
theorem SqK.mono {K : PySem.W.Frag} {k : Bool} {H H' : Hp} {a : Addr} {xs : List V} (e : Same H H') (h : SqK K k H a xs) : SqK K k H' a xs := by
  cases k with
  | true => exact e.seq h
  | false =>
    rcases h with (h | ⟨o, h⟩) | h
    · exact .inl (.inl (e _ _ h))
    · exact .inl (.inr ⟨o, e _ _ h⟩)
    · exact .inr h
theorem turn_goes {P : Program} {w : World} {K : PySem.W.Frag} {tg : Expr} {J : It} {fp : List Addr} {it : Addr} {tn : Nat → Heap → Prop}
    (mem : it ∈ fp) (obj : ∀ i h, tn i h → ∀ b ∈ fp, ∃ o, h.get? b = some o ∧ ∀ v, o.data ≠ .cell v) (keep : ∀ i h h', tn i h → (∀ b ∈ fp, ∀ o, h.get? b = some o → h'.get? b = some o) → tn i h')
    (go : ∀ (X : Cx), X.prog = P → X.w = w → X.K = K → X.calm = true → ∀ (i : Nat) (pins : List (Addr × Obj)) (s : Shared) (σ : L2.St) (H : Hp), Inv X pins σ H s → (∀ b ∈ fp, FpOk X pins H b) → tn i s.heap → (J.go i H ∨ J.stop i H) →
      ∃ (gfp wr : List Addr) (n : Nat) (Y : Nat → Heap → Value → Heap → Prop) (St : Nat → Heap → Prop), GoesN P w X.A tg it gfp wr n Y St ∧ St i s.heap ∧ (∀ b ∈ wr, b ∈ fp) ∧
        (J.go i H → i < n ∧ ∀ v h', Y i s.heap v h' → St (i + 1) h' → (∀ b o, b ∉ wr → s.heap.get? b = some o → h'.get? b = some o) →
          tn (i + 1) h' ∧ ∃ T ob, v = .ref T ∧ s.heap.objs.size ≤ T ∧ ObjOk P w (upd H T ob) h' T ob ∧ J.yld i H (.ref T) (upd H T ob)) ∧ (J.stop i H → i = n))
    (self : ∀ (A : Around) (i : Nat) (s : Shared) (Q : Value → Shared → Prop) (E : Value → Shared → Prop), tn i s.heap → Q (.ref it) s → wpAny (model P w) A (pyIter (.ref it)) Q E s) : Turn P w K tg J fp it tn where
  mem := mem
  obj := obj
  keep := keep
  item := by
    intro X hP hw hK hc i pins s σ H E I hf st hg
    obtain ⟨gfp, wr, n, Y, St, W, hst, hsub, h1, _⟩ := go X hP hw hK hc i pins s σ H I hf st (.inl hg)
    obtain ⟨hlt, h2⟩ := h1 hg
    subst hP hw hK
    refine W.goes i s (fun u s2 => ∃ x H', Inv X pins σ H' s2 ∧ RelV x u ∧ J.yld i H x H' ∧ tn (i + 1) s2.heap ∧ ∀ b ∈ fp, H' b = none) E hlt hst fun v h' tk hY st' hk _ => ?_
    obtain ⟨ht, T, ob, rfl, hT, new, yl⟩ := h2 v h' hY st' hk
    have I1 : Inv X pins σ (upd H T ob) { s with heap := h', toks := tk } := I.turnedNew (ch := wr) hk (fun b hb => hf b (hsub b hb)) hT new
    refine ⟨.ref T, _, I1, rfl, yl, ht, fun b hb => ?_⟩
    obtain ⟨o, e, _⟩ := obj i s.heap st b hb
    rw [upd_ne (Nat.ne_of_lt (Nat.lt_of_lt_of_le (Heap.lt_size e) hT))]
    exact (hf b hb).1
  done := by
    intro X hP hw hK hc i pins s σ H E I hf st hg
    obtain ⟨gfp, wr, n, Y, St, W, hst, hsub, _, h2⟩ := go X hP hw hK hc i pins s σ H I hf st (.inr hg)
    subst hP hw hK
    have e := h2 hg
    subst e
    refine W.stops s (fun s1 => Inv X pins σ H s1) E hst fun h' tk hk _ => ?_
    exact I.turnedL hk fun b hb => hf b (hsub b hb)
  self := self
theorem tup_ok {P : Program} {w : World} {H : Hp} {h : Heap} {T : Addr} {xs : List V} {us : List Value} (r : Vals xs us) (ht : h.IsTuple T us.toArray) (hz : xs.length ≤ sizeLine) : ObjOk P w (upd H T (.tup xs)) h T (.tup xs) := ⟨hz, us, r, ht⟩
def ItZ2 (K : PySem.W.Frag) (k1 : Bool) (a : Addr) (k2 : Bool) (b : Addr) : It :=
  ⟨fun i H => ∃ (xs ys : List V) (x y : V), SqK K k1 H a xs ∧ SqK K k2 H b ys ∧ xs[i]? = some x ∧ ys[i]? = some y,
    fun i H v H' => ∃ T x y, v = .ref T ∧ H T = none ∧ H' = upd H T (.tup [x, y]) ∧ (∀ xs, SqK K k1 H a xs → xs[i]? = some x) ∧ ∀ ys, SqK K k2 H b ys → ys[i]? = some y,
    fun i H => ∃ xs ys : List V, SqK K k1 H a xs ∧ SqK K k2 H b ys ∧ i = min xs.length ys.length⟩
theorem turn_z2 {P : Program} {w : World} {K : PySem.W.Frag} {elts : List Expr} {kk : Nat} {tpos : Pos} {k1 k2 : Bool} {a b z TI TO i1 i2 : Addr} (S : ZipSep2 z TI TO i1 i2 [i1, a] [i2, b]) (hia : a ≠ i1) (hib : b ≠ i2) :
    Turn P w K (.Tuple elts kk tpos) (ItZ2 K k1 a k2 b) [z, TI, TO, i1, i2] z (fun i h => IsZip h z TI TO .none ∧ IsTupOf2 h TI (.ref i1) (.ref i2) ∧ (∃ a1 a2, IsTupOf2 h TO a1 a2) ∧ ItK k1 h i1 a i ∧ ItK k2 h i2 b i) := by
  refine turn_goes (by simp) (fun i h st c hc => ?_) (fun i h h' st k => ?_) (fun X hP hw hK hc i pins s σ H I hf st hg => ?_) fun A i s Q E st h => wpAny_pyIter_zip st.1 h
  · obtain ⟨hz, hTI, ⟨x, y, hTO⟩, h1, h2⟩ := st
    have e' : c = z ∨ c = TI ∨ c = TO ∨ c = i1 ∨ c = i2 := by simpa using hc
    rcases e' with q | q | q | q | q
    · rw [q]; exact ⟨_, hz, fun v q => nomatch q⟩
    · rw [q]; exact ⟨_, hTI, fun v q => nomatch q⟩
    · rw [q]; exact ⟨_, hTO, fun v q => nomatch q⟩
    · rw [q]; exact h1.obj
    · rw [q]; exact h2.obj
  · obtain ⟨hz, hTI, ⟨x, y, hTO⟩, h1, h2⟩ := st
    exact ⟨k z (by simp) _ hz, k TI (by simp) _ hTI, ⟨x, y, k TO (by simp) _ hTO⟩, h1.at fun o q => k i1 (by simp) o q, h2.at fun o q => k i2 (by simp) o q⟩
  · subst hP hw hK
    obtain ⟨hz, hTI, hTO, h1, h2⟩ := st
    have src : ∃ xs ys, SqK X.K k1 H a xs ∧ SqK X.K k2 H b ys := by
      rcases hg with ⟨xs, ys, _, _, p, q, _⟩ | ⟨xs, ys, p, q, _⟩
      · exact ⟨xs, ys, p, q⟩
      · exact ⟨xs, ys, p, q⟩
    obtain ⟨xs, ys, sx, sy⟩ := src
    obtain ⟨its, rv, p1, z1, _⟩ := invK I sx
    obtain ⟨its2, rv2, p2, z2, _⟩ := invK I sy
    have hh : X.A.in1.handled = none := I.ok.hd hc
    have l1 := rv.length
    have l2 := rv2.length
    refine ⟨_, _, _, _, _, GoesN.zip2 S (drawsK hh k1 i1 a hia its.toArray) (drawsK hh k2 i2 b hib its2.toArray), ⟨hz, hTI, hTO, ⟨h1, p1⟩, ⟨h2, p2⟩⟩, fun c hc => ?_, fun hgo => ⟨?_, fun v h' hY st' hk => ?_⟩, fun hs => ?_⟩
    · have e' : c = z ∨ c = TO ∨ c = i1 ∨ c = i2 := by simpa using hc
      rcases e' with q | q | q | q <;> simp [q]
    · obtain ⟨xs', ys', x, y, p, q, e1, e2⟩ := hgo
      have E1 := invK_inj I p sx
      have E2 := invK_inj I q sy
      subst E1 E2
      have g1 : i < xs'.length := by
        rcases Nat.lt_or_ge i xs'.length with g | g
        · exact g
        · rw [List.getElem?_eq_none g] at e1; cases e1
      have g2 : i < ys'.length := by
        rcases Nat.lt_or_ge i ys'.length with g | g
        · exact g
        · rw [List.getElem?_eq_none g] at e2; cases e2
      simp only [List.size_toArray]
      omega
    · obtain ⟨T, u, v', rfl, hT, hu, hv, htup⟩ := hY
      obtain ⟨hz', hTI', hTO', ⟨h1', _⟩, ⟨h2', _⟩⟩ := st'
      refine ⟨⟨hz', hTI', hTO', h1', h2'⟩, ?_⟩
      obtain ⟨xs', ys', x, y, p, q, e1, e2⟩ := hgo
      have E1 := invK_inj I p sx
      have E2 := invK_inj I q sy
      subst E1 E2
      obtain ⟨u', hu', ru⟩ := rv.get e1
      obtain ⟨w', hw', rw'⟩ := rv2.get e2
      have eu : u = u' := by
        have : its[i]? = some u := by simpa using hu
        rw [hu'] at this; exact (Option.some.inj this).symm
      have ev : v' = w' := by
        have : its2[i]? = some v' := by simpa using hv
        rw [hw'] at this; exact (Option.some.inj this).symm
      subst eu ev
      refine ⟨T, .tup [x, y], rfl, hT, tup_ok (us := [u, v']) (.cons ru (.cons rw' .nil)) htup (by show 2 ≤ sizeLine; decide), T, x, y, rfl, I.hok.fresh hT, rfl, fun l hl => by rw [invK_inj I hl p]; exact e1, fun l hl => by rw [invK_inj I hl q]; exact e2⟩
    · obtain ⟨xs', ys', p, q, e⟩ := hs
      have E1 := invK_inj I p sx
      have E2 := invK_inj I q sy
      subst E1 E2
      simp only [List.size_toArray]
      omega
def iZ2 (K : PySem.W.Frag) (ta : TA) : TI := fun σ H R => ta σ H fun vs H1 => ∃ k1 k2 a b xs ys, vs = [.ref a, .ref b] ∧ SqK K k1 H1 a xs ∧ SqK K k2 H1 b ys ∧ R (ItZ2 K k1 a k2 b) H1
theorem pi_z2 {X : Cx} {e e2 : Expr} {ta : TA} {p pos tpos : Pos} {elts : List Expr} {kk : Nat} (hg : Gl X "zip") (hm : X.mg "zip" = none) (ha : PA X [e, e2] ta)
    (hs : starEach [e, e2] X.env = (false, eval e X.env) :: starEach [e2] X.env := by rfl) (hpl : (backTo pos (starEach [e2] X.env)).any (·.1) = false := by rfl) :
    PI X (.Tuple elts kk tpos) (.Call (.Name "zip" p) [e, e2] [] pos) (iZ2 X.K ta) := by
  refine ⟨fun pins s σ H R I h => ?_⟩
  refine Call_ (ld_blt I hg hm PyProof.Rows.boot_zip (PyProof.Rows.callWith_type1 (thn (ha.run pos pins s σ H _ I h) fun us s1 ⟨vs, H1, I1, r1, q1⟩ => ?_) hs hpl))
  obtain ⟨k1, k2, a, b, xs, ys, ex, hqx, hqy, q⟩ := q1
  subst ex
  obtain ⟨u1, u2, rfl, ra, rb⟩ := vals2 r1
  cases ra
  cases rb
  obtain ⟨its, rv, p1, _, la⟩ := invK I1 hqx
  obtain ⟨its2, rv2, p2, _, lb⟩ := invK I1 hqy
  refine zip_begins2 (beginsK k1 a its.toArray) (beginsK k2 b its2.toArray) p1 p2 fun h' hz hTI hTO h1 h2 hsz hk => wpAny_pyIter_zip hz ?_
  have I2 : Inv X pins σ H1 { s1 with heap := h' } := I1.kept (t' := s1.toks) hk
  refine ⟨s1.heap.objs.size + 4, [s1.heap.objs.size + 4, s1.heap.objs.size + 2, s1.heap.objs.size + 3, s1.heap.objs.size, s1.heap.objs.size + 1], _, _, H1, rfl, I2,
    turn_z2 (zip_sep2 (fp1 := [a]) (fp2 := [b]) (fun c hc => by rw [List.mem_singleton.mp hc]; exact la) (fun c hc => by rw [List.mem_singleton.mp hc]; exact lb)) (Nat.ne_of_lt la) (Nat.ne_of_lt (Nat.lt_succ_of_lt lb)), ⟨hz, hTI, ⟨_, _, hTO⟩, itK_new h1, itK_new h2⟩, fun c hcm => ?_, q⟩
  have hle : s1.heap.objs.size ≤ c := by
    have e' : c = s1.heap.objs.size + 4 ∨ c = s1.heap.objs.size + 2 ∨ c = s1.heap.objs.size + 3 ∨ c = s1.heap.objs.size ∨ c = s1.heap.objs.size + 1 := by simpa using hcm
    rcases e' with z | z | z | z | z
    · rw [z]; exact Nat.le_add_right _ _
    · rw [z]; exact Nat.le_add_right _ _
    · rw [z]; exact Nat.le_add_right _ _
    · rw [z]; exact Nat.le_refl _
    · rw [z]; exact Nat.le_add_right _ _
  exact I1.fpOk hle (I1.hok.fresh hle)
theorem lt_of_get {α : Type} {l : List α} {i : Nat} {x : α} (e : l[i]? = some x) : i < l.length := by
  rcases Nat.lt_or_ge i l.length with g | g
  · exact g
  · rw [List.getElem?_eq_none g] at e; cases e
theorem same_get {its : List Value} {i : Nat} {u u' : Value} (h : its.toArray[i]? = some u) (h' : its[i]? = some u') : u = u' := by
  have : its[i]? = some u := by simpa using h
  rw [h'] at this; exact (Option.some.inj this).symm
set_option maxHeartbeats 1000000 in
theorem meets_enumerate_new1 {v : Value} {o : Obj} {H : Heap → Prop} (B : Begins v o H) :
    Meets (Builtin.«enumerate.__new__» ⟨[.type "enumerate", v], []⟩) (fun _ R s => H s.heap ∧
      R (.ok (.ret (.ref (s.heap.push o).objs.size))) { s with heap := (s.heap.push o).push { cls := .type "enumerate", data := .fields #[.none, .bool false, .ref s.heap.objs.size, rawInt 0, .none, .none] } }) :=
  .of_wp fun prog w A R s h => by
    obtain ⟨hp, g, d, tk, os⟩ := s; obtain ⟨h1, h⟩ := h
    have hsub := sub_enumerate
    have q1 : ∀ {A' : Around} {E : Value → Shared → Prop} {Q : Value → Shared → Prop}, Q (.ref hp.objs.size) ⟨hp.push o, g, d, tk, os⟩ → wpAny (model prog w) A' (pyIter v) Q E ⟨hp, g, d, tk, os⟩ :=
      fun q => B.iter prog w _ _ ⟨hp, g, d, tk, os⟩ _ h1 q
    wp_walk using q1
    refine wpAny_stack_any fun st => wpAny_pure ?_
    split
    · rename_i c _ _ _ _ _
      cases (c == Value.type "enumerate")
      · wp_walk using q1
        exact ⟨_, rfl, h⟩
      · wp_walk using q1
        exact ⟨_, rfl, h⟩
    · wp_walk using q1
      exact ⟨_, rfl, h⟩
theorem enum_begins1 {prog : Program} {w : World} {A : Around} {E : Value → Shared → Prop} {s : Shared} {v : Value} {o : Obj} {H : Heap → Prop} {Q : Value → Shared → Prop} (B : Begins v o H) (h1 : H s.heap)
    (h : ∀ h', IsEnum h' (s.heap.objs.size + 1) s.heap.objs.size 0 .none → h'.get? s.heap.objs.size = some o → h'.objs.size = s.heap.objs.size + 2 →
      (∀ b o, s.heap.get? b = some o → h'.get? b = some o) → Q (.ref (s.heap.objs.size + 1)) { s with heap := h' }) :
    wpAny (model prog w) A (call (.type "enumerate") [v]) Q E s := by
  refine callType_new F.called_enumerate (by decide) (F.typeCall_enumerate_1 _) (F.newCall_enumerate_1 _) (fun obj => F.args_object_init_2 obj _) F.entry_enumerate_new
    (meets_enumerate_new1 B) ⟨h1, ?_⟩
  have hz : (s.heap.push o).objs.size = s.heap.objs.size + 1 := Heap.size_push ..
  show _ ∧ _
  rw [hz]
  have he : IsEnum ((s.heap.push o).push { cls := .type "enumerate", data := .fields #[.none, .bool false, .ref s.heap.objs.size, rawInt 0, .none, .none] }) (s.heap.objs.size + 1) s.heap.objs.size 0 .none := by
    have := Heap.get?_push_size (s.heap.push o) (o := { cls := .type "enumerate", data := .fields #[.none, .bool false, .ref s.heap.objs.size, rawInt 0, .none, .none] }) rfl
    rw [hz] at this; exact this
  refine ⟨⟨_, he, rfl⟩, h _ he (Heap.get?_push_of_some _ (Heap.get?_push_size _ B.free)) (by rw [Heap.size_push, hz]) fun b o x => Heap.get?_push_of_some _ (Heap.get?_push_of_some _ x)⟩
def ItE (K : PySem.W.Frag) (k : Bool) (a : Addr) : It :=
  ⟨fun i H => ∃ (xs : List V) (x : V), SqK K k H a xs ∧ xs[i]? = some x,
    fun i H v H' => ∃ T x, v = .ref T ∧ H T = none ∧ H' = upd H T (.tup [.int (i : Nat), x]) ∧ ∀ xs, SqK K k H a xs → xs[i]? = some x,
    fun i H => ∃ xs : List V, SqK K k H a xs ∧ i = xs.length⟩
theorem turn_e {P : Program} {w : World} {K : PySem.W.Frag} {elts : List Expr} {kk : Nat} {tpos : Pos} {k : Bool} {a e it : Addr} (hei : e ≠ it) (hea : e ≠ a) (hia : a ≠ it) :
    Turn P w K (.Tuple elts kk tpos) (ItE K k a) [e, it] e (fun i h => (∃ old, IsEnum h e it ((0 : Int) + (i : Int)) old) ∧ ItK k h it a i) := by
  refine turn_goes (by simp) (fun i h st d hd => ?_) (fun i h h' st k => ?_) (fun X hP hw hK hc i pins s σ H I hf st hg => ?_) fun A i s Q E st h => let ⟨⟨_, he⟩, _⟩ := st; wpAny_pyIter_enum he h
  · obtain ⟨⟨old, he⟩, h1⟩ := st
    have e' : d = e ∨ d = it := by simpa using hd
    rcases e' with q | q
    · rw [q]; exact ⟨_, he, fun v q => nomatch q⟩
    · rw [q]; exact h1.obj
  · obtain ⟨⟨old, he⟩, h1⟩ := st
    exact ⟨⟨old, k e (by simp) _ he⟩, h1.at fun o q => k it (by simp) o q⟩
  · subst hP hw hK
    obtain ⟨he, h1⟩ := st
    have src : ∃ xs, SqK X.K k H a xs := by
      rcases hg with ⟨xs, _, p, _⟩ | ⟨xs, p, _⟩
      · exact ⟨xs, p⟩
      · exact ⟨xs, p⟩
    obtain ⟨xs, sx⟩ := src
    obtain ⟨its, rv, p1, z1, _⟩ := invK I sx
    have hh : X.A.in1.handled = none := I.ok.hd hc
    have l1 := rv.length
    refine ⟨_, _, _, _, _, GoesN.enumFrom 0 (drawsK hh k it a hia its.toArray) e hei (by simp [hei, hea]) (by simp), ⟨he, ⟨h1, p1⟩⟩, fun d hd => hd, fun hgo => ⟨?_, fun v h' hY st' hk => ?_⟩, fun hs => ?_⟩
    · obtain ⟨xs', x, p, e1⟩ := hgo
      have E1 := invK_inj I p sx
      subst E1
      have g1 := lt_of_get e1
      simp only [List.size_toArray]
      omega
    · obtain ⟨T, t, u, rfl, hT, hu, htup⟩ := hY
      obtain ⟨he', ⟨h1', _⟩⟩ := st'
      refine ⟨⟨he', h1'⟩, ?_⟩
      obtain ⟨xs', x, p, e1⟩ := hgo
      have E1 := invK_inj I p sx
      subst E1
      obtain ⟨u', hu', ru⟩ := rv.get e1
      have eu := same_get hu hu'
      subst eu
      refine ⟨T, .tup [.int (i : Nat), x], rfl, hT, tup_ok (us := [.int ((0 : Int) + (i : Int)) t, u]) (.cons ⟨t, by rw [Int.zero_add]⟩ (.cons ru .nil)) htup (by show 2 ≤ sizeLine; decide), T, x, rfl, I.hok.fresh hT, rfl, fun l hl => by rw [invK_inj I hl p]; exact e1⟩
    · obtain ⟨xs', p, e⟩ := hs
      have E1 := invK_inj I p sx
      subst E1
      simp only [List.size_toArray]
      omega
def iE (K : PySem.W.Frag) (ta : TA) : TI := fun σ H R => ta σ H fun vs H1 => ∃ k a xs, vs = [.ref a] ∧ SqK K k H1 a xs ∧ R (ItE K k a) H1
theorem pi_e {X : Cx} {e : Expr} {ta : TA} {p pos tpos : Pos} {elts : List Expr} {kk : Nat} (hg : Gl X "enumerate") (hm : X.mg "enumerate" = none) (ha : PA X [e] ta) (hs : starEach [e] X.env = [(false, eval e X.env)] := by rfl) :
    PI X (.Tuple elts kk tpos) (.Call (.Name "enumerate" p) [e] [] pos) (iE X.K ta) := by
  refine ⟨fun pins s σ H R I h => ?_⟩
  refine Call_ (ld_blt (u := .type "enumerate") I hg hm (by decide +kernel) (PyProof.Rows.callWith_type1 (thn (ha.run pos pins s σ H _ I h) fun us s1 ⟨vs, H1, I1, r1, q1⟩ => ?_) (by rw [hs]; rfl) rfl))
  obtain ⟨k, a, xs, ex, hqx, q⟩ := q1
  subst ex
  rw [Vals.ref1 r1]
  obtain ⟨its, rv, p1, _, la⟩ := invK I1 hqx
  refine enum_begins1 (beginsK k a its.toArray) p1 fun h' he h1 hsz hk => wpAny_pyIter_enum he ?_
  have I2 : Inv X pins σ H1 { s1 with heap := h' } := I1.kept (t' := s1.toks) hk
  refine ⟨s1.heap.objs.size + 1, [s1.heap.objs.size + 1, s1.heap.objs.size], _, _, H1, rfl, I2,
    turn_e (Nat.ne_of_gt (Nat.lt_succ_self _)) (Nat.ne_of_gt (Nat.lt_succ_of_lt la)) (Nat.ne_of_lt la), ⟨⟨_, he⟩, itK_new h1⟩, fun d hdm => ?_, q⟩
  have hle : s1.heap.objs.size ≤ d := by
    have e' : d = s1.heap.objs.size + 1 ∨ d = s1.heap.objs.size := by simpa using hdm
    rcases e' with z | z
    · rw [z]; exact Nat.le_add_right _ _
    · rw [z]; exact Nat.le_refl _
  exact I1.fpOk hle (I1.hok.fresh hle)
end Pl
namespace Pl
open PySem PySem.Spec PyProof.Rows L2
variable [TJ]
structure PEnds where
  nx : Ro → Prop
  rt : Cell → Ro → Prop
  bk : Ro → Prop := fun _ => False
  ct : Ro → Prop := fun _ => False
abbrev TSp := PEnds → Ro → Prop
structure ERel (K : PySem.W.Frag) (G F : Hp) (P : PEnds) (D : Ends) : Prop where
  nx : ∀ F' H' σ' ρ', Up G F F' → Sim K G F' H' σ' ρ' → P.nx ρ' → D.nx σ' H'
  rt : ∀ F' H' σ' ρ' v c, Up G F F' → Sim K G F' H' (σ' ++ [some v]) (ρ' ++ [some c]) → P.rt c ρ' → D.rt v H'
  bk : ∀ F' H' σ' ρ', Up G F F' → Sim K G F' H' σ' ρ' → P.bk ρ' → D.bk σ' H'
  ct : ∀ F' H' σ' ρ', Up G F F' → Sim K G F' H' σ' ρ' → P.ct ρ' → D.ct σ' H'
theorem ERel.mono {K : PySem.W.Frag} {G F F1 : Hp} {P : PEnds} {D : Ends} (e : ERel K G F P D) (u : Up G F F1) : ERel K G F1 P D :=
  ⟨fun F' H' σ' ρ' v => e.nx F' H' σ' ρ' (u.trans v), fun F' H' σ' ρ' x c v => e.rt F' H' σ' ρ' x c (u.trans v), fun F' H' σ' ρ' v => e.bk F' H' σ' ρ' (u.trans v), fun F' H' σ' ρ' v => e.ct F' H' σ' ρ' (u.trans v)⟩
def SndS (K : PySem.W.Frag) (t : TS) (T : TSp) : Prop := ∀ (G F H : Hp) (σ : L2.St) (ρ : Ro) (P : PEnds) (D : Ends), Sim K G F H σ ρ → T P ρ → ERel K G F P D → t D σ H
structure PPS (X : Cx) (st : Stmt) (t : TS) (T : TSp) : Prop where
  ps : PS X st t
  snd : SndS X.K t T
structure PPSs (X : Cx) (st : List Stmt) (t : TS) (T : TSp) : Prop where
  ps : PSs X st t
  snd : SndS X.K t T
section
variable {X : Cx} {st : Stmt} {rest : List Stmt} {t u : TS} {T U : TSp} {e : Expr} {te : TE} {Te : TEp} {Tc : TCp} {pos : Pos}
def pNext : TSp := fun P ρ => P.nx ρ
def pSeq (T U : TSp) : TSp := fun P ρ => T { P with nx := U P } ρ
theorem ppss_nil : PPSs X [] tNext pNext := ⟨pss_nil, fun G F H σ ρ P D S h r => r.nx F H σ ρ (.refl _ _) S h⟩
theorem ppss_one (h1 : PPS X st t T) : PPSs X [st] t T := ⟨pss_one h1.ps, h1.snd⟩
theorem ppss_cons (h1 : PPS X st t T) (h2 : PPSs X rest u U) : PPSs X (st :: rest) (tSeq t u) (pSeq T U) := ⟨pss_cons h1.ps h2.ps, fun G F H σ ρ P D S h r =>
  h1.snd G F H σ ρ _ _ S h ⟨fun F' H' σ' ρ' u S' q => h2.snd G F' H' σ' ρ' P D S' q (r.mono u), r.rt, r.bk, r.ct⟩⟩
def pDrop (Te : TEp) : TSp := fun P ρ => Te ρ fun _ ρ1 => P.nx ρ1
theorem pps_expr (he : PPE X e te Te) (hs : swapsWith e none pos.line X.env = pure false := by rfl) : PPS X (.Expr e pos) (tDrop te) (pDrop Te) := ⟨ps_expr he.pe hs, fun G F H σ ρ P D S h r =>
  he.snd G F H σ ρ _ _ S h fun v d F' H' ρ' u S' _ q => r.nx F' H' σ ρ' u S' q⟩
def pRet (Tc : TCp) : TSp := fun P ρ => Tc ρ P.rt
theorem pps_ret (he : PPC X e te Tc) : PPS X (.Return (some e) pos) (tRet te) (pRet Tc) := ⟨ps_ret he.pe, fun G F H σ ρ P D S h r =>
  he.snd G F H σ ρ _ _ S h fun v c F' H' ρ' u S' q => r.rt F' H' σ ρ' v c u S' q⟩
def pIfS (C : TTp) (T U : TSp) : TSp := fun P ρ => C ρ fun b ρ1 => if b = true then T P ρ1 else U P ρ1
theorem pps_if {c : Expr} {a b : List Stmt} {tc : TT} {C : TTp} (hc : PPT X c tc C) (ha : PPSs X a t T) (hb : PPSs X b u U) : PPS X (.If c a b pos) (tIfS tc t u) (pIfS C T U) := ⟨ps_if hc.pt ha.ps hb.ps, fun G F H σ ρ P D S h r =>
  hc.snd G F H σ ρ _ _ S h fun b F' H' ρ' u S' q => by
    cases b with
    | true => exact ite_ti (ha.snd G F' H' σ ρ' P D S' (ite_t q) (r.mono u))
    | false => exact ite_fi (hb.snd G F' H' σ ρ' P D S' (ite_f q) (r.mono u))⟩
def pNever : TSp := fun _ _ => False
theorem pps_never : PPS X st tNever pNever := ⟨ps_never, fun _ _ _ _ _ _ _ _ h _ => h.elim⟩
abbrev TGp := D → Ro → (Ro → Prop) → Prop
abbrev TGsp := List D → Ro → (Ro → Prop) → Prop
def SndG (K : PySem.W.Frag) (g : TG) (Gp : TGp) (is : List Nat) : Prop := ∀ (G F H : Hp) (σ : L2.St) (ρ : Ro) (Q : Ro → Prop) (R : L2.St → Hp → Prop) (v : V) (d : D), Sim K G F H σ ρ → Rep K F v d → Gp d ρ Q →
  (∀ F' H' σ' ρ', Up G F F' → Sim K G F' H' σ' ρ' → (∀ j, j ∉ is → σ'[j]? = σ[j]?) → σ'.length = σ.length → Q ρ' → R σ' H') → g v σ H R
def SndGs (K : PySem.W.Frag) (g : TGs) (Gp : TGsp) (is : List Nat) : Prop := ∀ (G F H : Hp) (σ : L2.St) (ρ : Ro) (Q : Ro → Prop) (R : L2.St → Hp → Prop) (vs : List V) (ds : List D), Sim K G F H σ ρ → Reps K F vs ds → Gp ds ρ Q →
  (∀ F' H' σ' ρ', Up G F F' → Sim K G F' H' σ' ρ' → (∀ j, j ∉ is → σ'[j]? = σ[j]?) → σ'.length = σ.length → Q ρ' → R σ' H') → g vs σ H R
structure PTg (X : Cx) (tg : Expr) (g : TG) (Gp : TGp) (is : List Nat) : Prop where
  pg : PG X tg g
  snd : SndG X.K g Gp is
structure PTgs (X : Cx) (tgs : List Expr) (g : TGs) (Gp : TGsp) (is : List Nat) : Prop where
  pg : PGs X tgs g
  snd : SndGs X.K g Gp is
def hName (i : Nat) : TGp := fun d ρ Q => Q (ρ.set i (some (.val d)))
theorem ptg_name {i : Nat} {x : Str} (hN : X.N.Nodup) (hi : X.N[i]? = some x := by rfl) (hx : Loc X.env.scope x := by first | exact Or.inl rfl | exact Or.inr rfl) (hf : X.fn x = true ∨ X.env.scope.names.lookup x = some .local := by first | exact .inl rfl | exact .inr rfl | assumption) : PTg X (.Name x pos) (gName i) (hName i) [i] :=
  ⟨pg_name hN hi hx hf, fun G F H σ ρ Q R v d S r h k => k F H _ _ (.refl _ _) (S.setVal i r) (fun j hj => List.getElem?_set_ne (fun z => hj (by simp [z]))) (by simp) h⟩
def hNil : TGsp := fun ds ρ Q => ds = [] ∧ Q ρ
def hCons (g : TGp) (gs : TGsp) : TGsp := fun ds ρ Q => match ds with | d :: r => g d ρ fun ρ' => gs r ρ' Q | [] => False
theorem ptgs_nil : PTgs X [] gNil hNil [] := ⟨pgs_nil, fun G F H σ ρ Q R vs ds S r h k => by
  obtain ⟨rfl, h⟩ := h
  cases r
  exact ⟨rfl, k F H σ ρ (.refl _ _) S (fun _ _ => rfl) rfl h⟩⟩
theorem ptgs_cons {e : Expr} {es : List Expr} {g : TG} {gs : TGs} {Gp : TGp} {Gs : TGsp} {is js : List Nat} (h1 : PTg X e g Gp is) (h2 : PTgs X es gs Gs js)
    (hs : (assignEach (e :: es) X.env).map (·.2) = assign e X.env :: (assignEach es X.env).map (·.2) := by rfl) : PTgs X (e :: es) (gCons g gs) (hCons Gp Gs) (is ++ js) := ⟨pgs_cons h1.pg h2.pg hs, fun G F H σ ρ Q R vs ds S r h k => by
  cases r with
  | nil => exact h.elim
  | cons r1 r2 => exact ⟨_, _, rfl, h1.snd G F H σ ρ _ _ _ _ S r1 h fun F1 H1 σ1 ρ1 u1 S1 o1 l1 q1 => h2.snd G F1 H1 σ1 ρ1 _ _ _ _ S1 (r2.mono u1.ex) q1 fun F2 H2 σ2 ρ2 u2 S2 o2 l2 q2 =>
      k F2 H2 σ2 ρ2 (u1.trans u2) S2 (fun j hj => (o2 j fun z => hj (List.mem_append_right _ z)).trans (o1 j fun z => hj (List.mem_append_left _ z))) (l2.trans l1) q2⟩⟩
def gAny (K : PySem.W.Frag) (n : Nat) (t : TGs) : TG := fun v σ H Q => gTup K n t v σ H Q ∨ gUnl K n t v σ H Q
def hTup (n : Nat) (g : TGsp) : TGp := fun d ρ Q => match d with
  | .tup ds => ds.length = n ∧ g ds ρ Q
  | .lst ds => ds.length = n ∧ g ds ρ Q
  | _ => False
theorem ptg_tup {es : List Expr} {k : Nat} {t : TGs} {Gp : TGsp} {n : Nat} {is : List Nat} (hc : X.calm = true) (h : PTgs X es t Gp is)
    (hn : (assignEach es X.env).length = n := by rfl) (hst : (assignEach es X.env).findIdx? (·.1) = none := by rfl) : PTg X (.Tuple es k pos) (gAny X.K n t) (hTup n Gp) is :=
  ⟨⟨fun pins s σ H v u Q I r hw => hw.elim (fun hw => (pg_tup hc h.pg hn hst).run pins s σ H v u Q I r hw) fun hw => (pg_unl hc h.pg hn hst).run pins s σ H v u Q I r hw⟩, fun G F H σ ρ Q R v d S r hh k => by
    cases r with
    | tup e r => exact .inl ⟨_, _, rfl, SqT.of (S.hF _ _ e), by rw [r.length]; exact hh.1, h.snd G F H σ ρ Q R _ _ S r hh.2 k⟩
    | lst e r => exact .inr ⟨_, _, rfl, SqL.of (S.hF _ _ e), by rw [r.length]; exact hh.1, h.snd G F H σ ρ Q R _ _ S r hh.2 k⟩
    | _ => exact hh.elim⟩
def pSet (i : Nat) (Tc : TCp) : TSp := fun P ρ => Tc ρ fun c ρ1 => P.nx (ρ1.set i (some c))
theorem snd_set {K : PySem.W.Frag} {i : Nat} {te : TE} {Tc : TCp} (h : SndC K te Tc) : SndS K (tAsg te (gName i)) (pSet i Tc) := fun G F H σ ρ P D S hT r =>
  h G F H σ ρ _ _ S hT fun v c F' H' ρ' u S' q => r.nx F' H' _ _ u (S'.store i) q
theorem pps_set {i : Nat} {x : Str} {pos' : Pos} (hN : X.N.Nodup) (he : PPC X e te Tc) (hi : X.N[i]? = some x := by rfl) (hx : Loc X.env.scope x := by first | exact Or.inl rfl | exact Or.inr rfl) (hs : swapsWith e (some (.Name x pos')) pos.line X.env = pure false := by rfl) (hf : X.fn x = true ∨ X.env.scope.names.lookup x = some .local := by first | exact .inl rfl | exact .inr rfl | assumption) :
    PPS X (.Assign [.Name x pos'] e pos) (tAsg te (gName i)) (pSet i Tc) := ⟨ps_set hN hi hx he.pe hs hf, snd_set he.snd⟩
def pAsg (Te : TEp) (g : TGp) : TSp := fun P ρ => Te ρ fun d ρ1 => g d ρ1 P.nx
theorem pps_asg {tg : Expr} {g : TG} {Gp : TGp} {is : List Nat} (he : PPE X e te Te) (hg : PTg X tg g Gp is) (hs : swapsWithSole [tg] e pos.line X.env = pure false := by rfl) (hw : swappedStores [tg] e X.env = pure none := by rfl)
    (h1 : (assignEach [tg] X.env).map (·.2) = [assign tg X.env] := by rfl) : PPS X (.Assign [tg] e pos) (tAsg te g) (pAsg Te Gp) := ⟨ps_asg he.pe hg.pg hs hw h1, fun G F H σ ρ P D S hT r =>
  he.snd G F H σ ρ _ _ S hT fun v d F' H' ρ' u S' rv q => hg.snd G F' H' σ ρ' _ _ v d S' rv q fun F2 H2 σ2 ρ2 u2 S2 _ _ q2 => r.nx F2 H2 σ2 ρ2 (u.trans u2) S2 q2⟩
def pPar (i j : Nat) (T : TAp) : TSp := fun P ρ => T ρ fun ds ρ1 => match ds with | [x, y] => P.nx ((ρ1.set i (some (.val x))).set j (some (.val y))) | _ => False
theorem pps_par {i j : Nat} {x y : Str} {a b : Expr} {ta : TA} {TA' : TAp} {px py pt : Pos} {kt k2 pt2} (hc : X.calm = true) (hN : X.N.Nodup) (ha : PPA X [a, b] ta TA') (hi : X.N[i]? = some x := by rfl) (hj : X.N[j]? = some y := by rfl) (hij : i ≠ j := by decide)
    (hx : X.env.scope.names.lookup x = some .local := by rfl) (hy : X.env.scope.names.lookup y = some .local := by rfl)
    (hw : swappedStores [.Tuple [.Name x px, .Name y py] kt pt] (.Tuple [a, b] k2 pt2) X.env = pure (some [x, y]) := by rfl)
    (hs : swapsWithSole [.Tuple [.Name x px, .Name y py] kt pt] (.Tuple [a, b] k2 pt2) pos.line X.env = pure false := by rfl) :
    PPS X (.Assign [.Tuple [.Name x px, .Name y py] kt pt] (.Tuple [a, b] k2 pt2) pos) (tPar i j ta) (pPar i j TA') := ⟨ps_par hc hN hi hj hij hx hy ha.pa hw hs, fun G F H σ ρ P D S hT r =>
  ha.snd G F H σ ρ _ _ S hT fun vs ds F' H' ρ' u S' rv q => by
    match rv, q with
    | .cons (d := d1) r1 (.cons (d := d2) r2 .nil), q => exact ⟨_, _, rfl, r.nx F' H' _ _ u ((S'.setVal i r1).setVal j r2) q⟩
    | .nil, q => exact q.elim
    | .cons _ .nil, q => exact q.elim
    | .cons _ (.cons _ (.cons _ _)), q => exact q.elim⟩
end
def ItRep (K : PySem.W.Frag) (J : It) (F : Hp) (ds : List D) : Prop := ∀ F' H, Same F F' → Same F' H →
  (∀ (i : Nat) (d : D), ds[i]? = some d → J.go i H ∧ ∀ x H', J.yld i H x H' → ∃ F'', Res K F' H x d F'' H') ∧ J.stop ds.length H
theorem ItRep.mono {K : PySem.W.Frag} {J : It} {F F1 : Hp} {ds : List D} (h : ItRep K J F ds) (e : Same F F1) : ItRep K J F1 ds := fun F' H e1 e2 => h F' H (e.trans e1) e2
def SndI (K : PySem.W.Frag) (wi : TI) (T : TAp) : Prop := ∀ (G F H : Hp) (σ : L2.St) (ρ : Ro) (Q : List D → Ro → Prop) (R : It → Hp → Prop), Sim K G F H σ ρ → T ρ Q →
  (∀ J ds F' H' ρ', Up G F F' → Sim K G F' H' σ ρ' → ItRep K J F' ds → Q ds ρ' → R J H') → wi σ H R
structure PPI (X : Cx) (tg iter : Expr) (wi : TI) (T : TAp) : Prop where
  pi : PI X tg iter wi
  snd : SndI X.K wi T
theorem itrep_list {K : PySem.W.Frag} {F : Hp} {a : Addr} {vs : List V} {ds : List D} (h : F a = some (.lst vs)) (r : Reps K F vs ds) : ItRep K (Itl K a) F ds := fun F' H e1 e2 => by
  have hH : H a = some (.lst vs) := e2 _ _ (e1 _ _ h)
  refine ⟨fun i d hd => ?_, ⟨vs, SqL.of hH, by rw [r.length]; exact Nat.le_refl _⟩⟩
  obtain ⟨v, hv, rv⟩ := r.get hd
  refine ⟨⟨vs, v, SqL.of hH, hv⟩, fun x H' y => ?_⟩
  obtain ⟨rfl, y⟩ := y
  have e : x = v := Option.some.inj ((y vs (SqL.of hH)).symm.trans hv)
  subst e
  exact ⟨F', .old (rv.mono e1)⟩
theorem itrep_tup {K : PySem.W.Frag} {F : Hp} {a : Addr} {vs : List V} {ds : List D} (h : F a = some (.tup vs)) (r : Reps K F vs ds) : ItRep K (Itt K a) F ds := fun F' H e1 e2 => by
  have hH : H a = some (.tup vs) := e2 _ _ (e1 _ _ h)
  refine ⟨fun i d hd => ?_, ⟨vs, SqT.of hH, by rw [r.length]; exact Nat.le_refl _⟩⟩
  obtain ⟨v, hv, rv⟩ := r.get hd
  refine ⟨⟨vs, v, SqT.of hH, hv⟩, fun x H' y => ?_⟩
  obtain ⟨rfl, y⟩ := y
  have e : x = v := Option.some.inj ((y vs (SqT.of hH)).symm.trans hv)
  subst e
  exact ⟨F', .old (rv.mono e1)⟩
def asSeq (d : D) (k : List D → Prop) : Prop := match d with
  | .lst xs => k xs
  | .tup xs => k xs
  | _ => False
theorem Rep.seq {K : PySem.W.Frag} {F : Hp} {v : V} {d : D} {k : List D → Prop} (r : Rep K F v d) (h : asSeq d k) : ∃ (a : Addr) (q : Bool) (vs : List V) (ds : List D), v = .ref a ∧ F a = some (if q = true then .lst vs else .tup vs) ∧ Reps K F vs ds ∧ k ds := by
  cases r with
  | lst e r => exact ⟨_, true, _, _, rfl, e, r, h⟩
  | tup e r => exact ⟨_, false, _, _, rfl, e, r, h⟩
  | _ => exact h.elim
theorem sqk_of {K : PySem.W.Frag} {H : Hp} {a : Addr} {q : Bool} {vs : List V} (h : H a = some (if q = true then HO.lst vs else .tup vs)) : SqK K q H a vs := by
  cases q with
  | true => exact SqL.of h
  | false => exact SqT.of h
section
variable {X : Cx} {tg : Expr} {l : Expr} {tl : TE} {Tl : TEp} {pos : Pos}
def iAny (K : PySem.W.Frag) (tl : TE) : TI := fun σ H R => tl σ H fun x H1 => ∃ a, x = .ref a ∧ (((∃ xs, SqL K H1 a xs) ∧ R (Itl K a) H1) ∨ ((∃ xs, SqT K H1 a xs) ∧ R (Itt K a) H1))
theorem pi_any (hl : PE X l tl) : PI X tg l (iAny X.K tl) := by
  refine ⟨fun pins s σ H R I h => ?_⟩
  refine thn (hl.run pins s σ H _ I h) fun v s1 ⟨x, H1, I1, r1, q1⟩ => ?_
  obtain ⟨a, e, q1⟩ := q1
  subst e
  cases r1
  rcases q1 with ⟨⟨xs, hq⟩, q⟩ | ⟨⟨xs, hq⟩, q⟩
  · obtain ⟨its, rv, p, hz⟩ := I1.list hq
    refine wpAny_pyIter_list p.isList ?_
    refine ⟨s1.heap.objs.size, [s1.heap.objs.size], _, _, H1, rfl, I1.kept (t' := s1.toks) fun b o e => Heap.get?_push_of_some _ e, turn_list a _, ⟨_, Heap.get?_push_size _ rfl, rfl, rfl⟩, fun b hb => ?_, q⟩
    have e : b = s1.heap.objs.size := by simpa using hb
    subst e
    exact I1.fpOk (Nat.le_refl _) (I1.hok.fresh (Nat.le_refl _))
  · obtain ⟨its, rv, p, hz⟩ := I1.tuple hq
    refine wpAny_pyIter_tuple (show s1.heap.IsTuple a its.toArray from p) ?_
    refine ⟨s1.heap.objs.size, [s1.heap.objs.size], _, _, H1, rfl, I1.kept (t' := s1.toks) fun b o e => Heap.get?_push_of_some _ e, turn_tuple a _, ⟨_, Heap.get?_push_size _ rfl, rfl, rfl⟩, fun b hb => ?_, q⟩
    have e : b = s1.heap.objs.size := by simpa using hb
    subst e
    exact I1.fpOk (Nat.le_refl _) (I1.hok.fresh (Nat.le_refl _))
def jSeq (Tl : TEp) : TAp := fun ρ Q => Tl ρ fun x ρ1 => asSeq x fun xs => Q xs ρ1
theorem ppi_seq (hl : PPE X l tl Tl) : PPI X tg l (iAny X.K tl) (jSeq Tl) := ⟨pi_any hl.pe, fun G F H σ ρ Q R S h k =>
  hl.snd G F H σ ρ _ _ S h fun v d F' H' ρ' u S' rv q => by
    cases rv with
    | lst e r => exact ⟨_, rfl, .inl ⟨⟨_, SqL.of (S'.hF _ _ e)⟩, k _ _ F' H' ρ' u S' (itrep_list e r) q⟩⟩
    | tup e r => exact ⟨_, rfl, .inr ⟨⟨_, SqT.of (S'.hF _ _ e)⟩, k _ _ F' H' ρ' u S' (itrep_tup e r) q⟩⟩
    | _ => exact q.elim⟩
def rangeD (lo : Int) (n : Nat) : List D := (List.range n).map fun (i : Nat) => .int (lo + (i : Int))
theorem itrep_range {K : PySem.W.Frag} {F : Hp} (lo : Int) (n : Nat) : ItRep K (Itr lo n) F (rangeD lo n) := fun F' H e1 e2 => by
  refine ⟨fun i d hd => ?_, ?_⟩
  · have hi : i < n := by have := lt_of_get hd; simpa [rangeD] using this
    refine ⟨hi, fun x H' y => ?_⟩
    obtain ⟨rfl, rfl⟩ := y
    have e : d = .int (lo + i) := by
      unfold rangeD at hd
      rw [List.getElem?_map, List.getElem?_range hi] at hd
      exact (Option.some.inj hd).symm
    subst e
    exact ⟨F', .old (.int _)⟩
  · show n ≤ (rangeD lo n).length
    simp [rangeD]
def jRng1 (T : TAp) : TAp := fun ρ Q => T ρ fun ds ρ1 => match ds with | [.int j] => -(2 ^ 62) ≤ j ∧ j < 2 ^ 62 ∧ Q (rangeD 0 j.toNat) ρ1 | _ => False
theorem Reps.int1 {K : PySem.W.Frag} {F : Hp} {vs : List V} {j : Int} (r : Reps K F vs [.int j]) : vs = [.int j] := by
  cases r with
  | cons h t => cases h; cases t; rfl
theorem Reps.int2 {K : PySem.W.Frag} {F : Hp} {vs : List V} {i j : Int} (r : Reps K F vs [.int i, .int j]) : vs = [.int i, .int j] := by
  cases r with
  | cons h t => cases h; rw [t.int1]
theorem ppi_range1 {a : Expr} {ta : TA} {TA' : TAp} {p : Pos} (hg : Gl X "range") (hm : X.mg "range" = none) (ha : PPA X [a] ta TA') (hs : starEach [a] X.env = [(false, eval a X.env)] := by rfl) : PPI X tg (.Call (.Name "range" p) [a] [] pos) (iRng1 ta) (jRng1 TA') := ⟨pi_range1 hg hm ha.pa hs, fun G F H σ ρ Q R S h k =>
  ha.snd G F H σ ρ _ _ S h fun vs ds F' H' ρ' u S' rv q => by
    match ds, rv, q with
    | [.int j], rv, q => exact ⟨j, rv.int1, q.1, q.2.1, k _ _ F' H' ρ' u S' (itrep_range 0 _) q.2.2⟩⟩
def jRng2 (T : TAp) : TAp := fun ρ Q => T ρ fun ds ρ1 => match ds with | [.int i, .int j] => (-(2 ^ 62) ≤ i ∧ i < 2 ^ 62 ∧ -(2 ^ 62) ≤ j ∧ j < 2 ^ 62) ∧ Q (rangeD i (j - i).toNat) ρ1 | _ => False
theorem ppi_range2 {a b : Expr} {ta : TA} {TA' : TAp} {p : Pos} (hg : Gl X "range") (hm : X.mg "range" = none) (ha : PPA X [a, b] ta TA') (hs : starEach [a, b] X.env = [(false, eval a X.env), (false, eval b X.env)] := by rfl) (hs2 : starEach [b] X.env = [(false, eval b X.env)] := by rfl) : PPI X tg (.Call (.Name "range" p) [a, b] [] pos) (iRng2 ta) (jRng2 TA') := ⟨pi_range2 hg hm ha.pa hs hs2, fun G F H σ ρ Q R S h k =>
  ha.snd G F H σ ρ _ _ S h fun vs ds F' H' ρ' u S' rv q => by
    match ds, rv, q with
    | [.int i, .int j], rv, q => exact ⟨i, j, rv.int2, q.1, k _ _ F' H' ρ' u S' (itrep_range i _) q.2⟩⟩
theorem get_zipWith {α β γ : Type} {f : α → β → γ} {xs : List α} {ys : List β} {i : Nat} {z : γ} (h : (List.zipWith f xs ys)[i]? = some z) : ∃ x y, xs[i]? = some x ∧ ys[i]? = some y ∧ z = f x y := by
  rw [List.getElem?_zipWith] at h
  cases e1 : xs[i]? with
  | none => rw [e1] at h; simp at h
  | some x =>
    cases e2 : ys[i]? with
    | none => rw [e1, e2] at h; simp at h
    | some y => rw [e1, e2] at h; exact ⟨x, y, rfl, rfl, by simpa using h.symm⟩
def zipD (xs ys : List D) : List D := List.zipWith (fun x y => .tup [x, y]) xs ys
theorem itrep_z2 {K : PySem.W.Frag} {F : Hp} {k1 k2 : Bool} {a b : Addr} {vs ws : List V} {xs ys : List D} (h1 : F a = some (if k1 = true then .lst vs else .tup vs)) (h2 : F b = some (if k2 = true then .lst ws else .tup ws)) (r1 : Reps K F vs xs) (r2 : Reps K F ws ys) : ItRep K (ItZ2 K k1 a k2 b) F (zipD xs ys) := fun F' H e1 e2 => by
  have s1 : SqK K k1 H a vs := sqk_of (e2 _ _ (e1 _ _ h1))
  have s2 : SqK K k2 H b ws := sqk_of (e2 _ _ (e1 _ _ h2))
  refine ⟨fun i d hd => ?_, ⟨vs, ws, s1, s2, by simp [zipD, r1.length, r2.length]⟩⟩
  obtain ⟨x, y, hx, hy, rfl⟩ := get_zipWith hd
  obtain ⟨v, hv, rv⟩ := r1.get hx
  obtain ⟨w, hw, rw'⟩ := r2.get hy
  refine ⟨⟨vs, ws, v, w, s1, s2, hv, hw⟩, fun z H' q => ?_⟩
  obtain ⟨T, v', w', rfl, hT, rfl, f1, f2⟩ := q
  have ev : v' = v := Option.some.inj ((f1 _ s1).symm.trans hv)
  have ew : w' = w := Option.some.inj ((f2 _ s2).symm.trans hw)
  subst ev ew
  have hn : F' T = none := e2.free hT
  exact ⟨_, .new hT (.tup upd_same (.cons ((rv.mono e1).mono (same_new hn)) (.cons ((rw'.mono e1).mono (same_new hn)) .nil)))⟩
def jZ2 (T : TAp) : TAp := fun ρ Q => T ρ fun ds ρ1 => match ds with | [x, y] => asSeq x fun xs => asSeq y fun ys => Q (zipD xs ys) ρ1 | _ => False
theorem ppi_z2 {e e2 : Expr} {ta : TA} {TA' : TAp} {p tpos : Pos} {elts : List Expr} {kk : Nat} (hg : Gl X "zip") (hm : X.mg "zip" = none) (ha : PPA X [e, e2] ta TA')
    (hs : starEach [e, e2] X.env = (false, eval e X.env) :: starEach [e2] X.env := by rfl) (hpl : (backTo pos (starEach [e2] X.env)).any (·.1) = false := by rfl) :
    PPI X (.Tuple elts kk tpos) (.Call (.Name "zip" p) [e, e2] [] pos) (iZ2 X.K ta) (jZ2 TA') := ⟨pi_z2 hg hm ha.pa hs hpl, fun G F H σ ρ Q R S h k =>
  ha.snd G F H σ ρ _ _ S h fun vs ds F' H' ρ' u S' rv q => by
    match ds, rv, q with
    | [x, y], .cons rx (.cons ry .nil), q =>
      obtain ⟨a, k1, ws, xs, rfl, h1, r1, q⟩ := rx.seq q
      obtain ⟨b, k2, zs, ys, rfl, h2, r2, q⟩ := ry.seq q
      exact ⟨k1, k2, a, b, ws, zs, rfl, sqk_of (S'.hF _ _ h1), sqk_of (S'.hF _ _ h2), k _ _ F' H' ρ' u S' (itrep_z2 h1 h2 r1 r2) q⟩⟩
def enumD (n : Nat) : List D → List D
  | [] => []
  | x :: xs => .tup [.int n, x] :: enumD (n + 1) xs
theorem enumD_get : ∀ {xs : List D} {n i : Nat} {d : D}, (enumD n xs)[i]? = some d → ∃ x, xs[i]? = some x ∧ d = .tup [.int (n + i : Nat), x]
  | x :: xs, n, 0, d, h => ⟨x, rfl, (Option.some.inj h).symm⟩
  | x :: xs, n, i + 1, d, h => by
    obtain ⟨a, h1, h2⟩ := enumD_get (xs := xs) (n := n + 1) (i := i) (d := d) h
    exact ⟨a, h1, by rw [h2, show n + 1 + i = n + (i + 1) by omega]⟩
  | [], _, _, _, h => by simp [enumD] at h
theorem enumD_len : ∀ (xs : List D) (n : Nat), (enumD n xs).length = xs.length
  | [], _ => rfl
  | x :: xs, n => by simp [enumD, enumD_len xs (n + 1)]
theorem itrep_e {K : PySem.W.Frag} {F : Hp} {k : Bool} {a : Addr} {vs : List V} {xs : List D} (h1 : F a = some (if k = true then .lst vs else .tup vs)) (r1 : Reps K F vs xs) : ItRep K (ItE K k a) F (enumD 0 xs) := fun F' H e1 e2 => by
  have s1 : SqK K k H a vs := sqk_of (e2 _ _ (e1 _ _ h1))
  refine ⟨fun i d hd => ?_, ⟨vs, s1, by rw [enumD_len, r1.length]⟩⟩
  obtain ⟨x, hx, rfl⟩ := enumD_get hd
  obtain ⟨v, hv, rv⟩ := r1.get hx
  refine ⟨⟨vs, v, s1, hv⟩, fun z H' q => ?_⟩
  obtain ⟨T, v', rfl, hT, rfl, f1⟩ := q
  have ev : v' = v := Option.some.inj ((f1 _ s1).symm.trans hv)
  subst ev
  have hn : F' T = none := e2.free hT
  rw [Nat.zero_add]
  exact ⟨_, .new hT (.tup upd_same (.cons (.int _) (.cons ((rv.mono e1).mono (same_new hn)) .nil)))⟩
def jE (T : TAp) : TAp := fun ρ Q => T ρ fun ds ρ1 => match ds with | [x] => asSeq x fun xs => Q (enumD 0 xs) ρ1 | _ => False
theorem ppi_e {e : Expr} {ta : TA} {TA' : TAp} {p tpos : Pos} {elts : List Expr} {kk : Nat} (hg : Gl X "enumerate") (hm : X.mg "enumerate" = none) (ha : PPA X [e] ta TA') (hs : starEach [e] X.env = [(false, eval e X.env)] := by rfl) :
    PPI X (.Tuple elts kk tpos) (.Call (.Name "enumerate" p) [e] [] pos) (iE X.K ta) (jE TA') := ⟨pi_e hg hm ha.pa hs, fun G F H σ ρ Q R S h k =>
  ha.snd G F H σ ρ _ _ S h fun vs ds F' H' ρ' u S' rv q => by
    match ds, rv, q with
    | [x], .cons rx .nil, q =>
      obtain ⟨a, k1, ws, xs, rfl, h1, r1, q⟩ := rx.seq q
      exact ⟨k1, a, ws, rfl, sqk_of (S'.hF _ _ h1), k _ _ F' H' ρ' u S' (itrep_e h1 r1) q⟩⟩
end
def forW (g : TGp) (tb : TSp) (P : PEnds) : List D → Ro → Prop
  | [], ρ => P.nx ρ
  | d :: ds, ρ => g d ρ fun ρ1 => tb { P with nx := forW g tb P ds, ct := forW g tb P ds, bk := P.nx } ρ1
def pFor (Ti : TAp) (g : TGp) (tb : TSp) : TSp := fun P ρ => Ti ρ fun ds ρ1 => forW g tb P ds ρ1
theorem snd_for {K : PySem.W.Frag} {wi : TI} {Ti : TAp} {g : TG} {Gp : TGp} {is : List Nat} {tb : TS} {Tb : TSp} (hi : SndI K wi Ti) (hg : SndG K g Gp is) (hb : SndS K tb Tb) : SndS K (tFor wi g tb) (pFor Ti Gp Tb) := fun G F H σ ρ P D S h r =>
  hi G F H σ ρ _ _ S h fun J ds F1 H1 ρ1 u1 S1 J1 w1 => by
    refine ⟨fun i m σ' H' => m + i = ds.length ∧ ∃ F' ρ', Up G F1 F' ∧ Sim K G F' H' σ' ρ' ∧ forW Gp Tb P (ds.drop i) ρ', ⟨ds.length, by omega, F1, ρ1, .refl _ _, S1, w1⟩, fun i m σ' H' hW => ?_⟩
    obtain ⟨hm, F', ρ', u', S', w'⟩ := hW
    have J' := J1 F' H' u'.ex S'.hF
    by_cases hlt : i < ds.length
    · refine .inr ⟨(J'.1 i ds[i] (List.getElem?_eq_getElem hlt)).1, fun σ'' H'' => ∃ F'' ρ'', Up G F1 F'' ∧ Sim K G F'' H'' σ'' ρ'' ∧ forW Gp Tb P (ds.drop (i + 1)) ρ'', fun σ'' H'' q => ⟨m - 1, by omega, by omega, q⟩, fun x H'' hy => ?_⟩
      obtain ⟨F2, res⟩ := (J'.1 i ds[i] (List.getElem?_eq_getElem hlt)).2 x H'' hy
      obtain ⟨u2, S2, r2⟩ := S'.res res
      rw [List.drop_eq_getElem_cons hlt] at w'
      refine hg G F2 H'' σ' ρ' _ _ x _ S2 r2 w' fun F3 H3 σ3 ρ3 u3 S3 _ _ q3 => hb G F3 H3 σ3 ρ3 _ _ S3 q3 ?_
      have up := (u'.trans u2).trans u3
      exact ⟨fun F4 H4 σ4 ρ4 u4 S4 q4 => ⟨F4, ρ4, up.trans u4, S4, q4⟩, fun F4 H4 σ4 ρ4 v c u4 S4 q4 => r.rt F4 H4 σ4 ρ4 v c (u1.trans (up.trans u4)) S4 q4,
        fun F4 H4 σ4 ρ4 u4 S4 q4 => r.nx F4 H4 σ4 ρ4 (u1.trans (up.trans u4)) S4 q4, fun F4 H4 σ4 ρ4 u4 S4 q4 => ⟨F4, ρ4, up.trans u4, S4, q4⟩⟩
    · have e : i = ds.length := by omega
      subst e
      rw [List.drop_length] at w'
      exact .inl ⟨J'.2, r.nx F' H' σ' ρ' (u1.trans u') S' w'⟩
theorem pps_for {X : Cx} {tg iter : Expr} {body : List Stmt} {wi : TI} {Ti : TAp} {g : TG} {Gp : TGp} {is : List Nat} {tb : TS} {Tb : TSp} {pos : Pos} (hp : PassesOwn (model X.prog X.w) X.A X.env X.xe) (hc : X.calm = true) (hi : PPI X tg iter wi Ti) (hg : PTg X tg g Gp is) (hb : PPSs X body tb Tb)
    (hs : ∀ x, foldedSetIterable iter X.env x = pure x := by intro _; rfl) : PPS X (.For tg iter body [] pos) (tFor wi g tb) (pFor Ti Gp Tb) := ⟨ps_for hp hc hi.pi hg.pg hb.ps hs, snd_for hi.snd hg.snd hb.snd⟩
end Pl
namespace Pl
open PySem PySem.Spec PyProof.Rows L2
variable [TJ]
def valOnly : Option (Option Cell) → Option Cell
  | some (some (.val d)) => some (.val d)
  | _ => none
def wipeP (ρ : Ro) : List Nat → Ro
  | [] => ρ
  | v :: vs => (wipeP ρ vs).set v none
def restore (ρ0 ρ : Ro) : List Nat → Ro
  | [] => ρ
  | v :: vs => (restore ρ0 ρ vs).set v (valOnly ρ0[v]?)
theorem wipe_get {σ : L2.St} : ∀ {vs : List Nat} {j : Nat}, (wipe σ vs)[j]? = if j ∈ vs ∧ j < σ.length then some none else σ[j]?
  | [], j => by simp [wipe]
  | v :: vs, j => by
    show ((wipe σ vs).set v none)[j]? = _
    by_cases h : v = j
    · subst h
      by_cases hl : v < σ.length
      · rw [List.getElem?_set_self (by rw [wipe_length]; exact hl), if_pos ⟨by simp, hl⟩]
      · rw [List.getElem?_eq_none (by simp [wipe_length]; omega), if_neg (fun q => hl q.2), List.getElem?_eq_none (by omega)]
    · rw [List.getElem?_set_ne h, wipe_get]
      have e : (j ∈ v :: vs) ↔ j ∈ vs := by
        constructor
        · intro q
          rcases List.mem_cons.mp q with q | q
          · exact absurd q.symm h
          · exact q
        · exact List.mem_cons_of_mem _
      simp only [e]
theorem wipe_eq {σ σ2 : L2.St} {vs : List Nat} (hl : σ2.length = σ.length) (h : ∀ j, j ∉ vs → σ2[j]? = (wipe σ vs)[j]?) : wipe σ2 vs = wipe σ vs := by
  apply List.ext_getElem?
  intro j
  rw [wipe_get, wipe_get]
  by_cases hj : j ∈ vs
  · by_cases hlt : j < σ.length
    · rw [if_pos ⟨hj, by omega⟩, if_pos ⟨hj, hlt⟩]
    · rw [if_neg (fun q => hlt (by omega)), if_neg (fun q => hlt q.2), List.getElem?_eq_none (by omega), List.getElem?_eq_none (by omega)]
  · have e := h j hj
    rw [wipe_get, if_neg (fun q => hj q.1)] at e
    rw [if_neg (fun q => hj q.1), if_neg (fun q => hj q.1)]
    exact e
section
variable {K : PySem.W.Frag} {G F H : Hp} {σ : L2.St} {ρ : Ro}
theorem Sim.wipe (S : Sim K G F H σ ρ) : ∀ vs : List Nat, Sim K G F H (L2.wipe σ vs) (wipeP ρ vs)
  | [] => S
  | v :: vs => (Sim.wipe S vs).forget v none
theorem Sim.updFree (S : Sim K G F H σ ρ) {p : Addr} {vs ws : List V} (hH : H p = some (.lst vs)) (hF : F p = none) (hG : G p = none) (hn : NotOwn ρ p) : Sim K G F (upd H p (.lst ws)) σ ρ where
  hF := fun a x e => by rw [upd_ne (ne_of_none e hF)]; exact S.hF a x e
  hG := S.hG.mut hG hH
  len := S.len
  val := S.val
  own := fun i a xs e => by
    obtain ⟨h1, h2, h3, vs, h4, h5⟩ := S.own i a xs e
    have q : a ≠ p := fun z => by subst z; exact hn.1 i xs e
    exact ⟨h1, h2, h3, vs, by rw [upd_ne q]; exact h4, h5⟩
  ne := S.ne
  bx := S.bx.upd' hn.2
theorem Sim.guard (S : Sim K G F H σ ρ) {p : Addr} {vs : List V} (hH : H p = some (.lst vs)) (hn : NotOwn ρ p) : Sim K (upd G p (.lst vs)) F H σ ρ where
  hF := S.hF
  hG := S.hG.guard hH
  len := S.len
  val := S.val
  own := fun i a xs e => by
    obtain ⟨h1, h2, h3, h4⟩ := S.own i a xs e
    have q : a ≠ p := fun z => by subst z; exact hn.1 i xs e
    exact ⟨h1, h2, by rw [upd_ne q]; exact h3, h4⟩
  ne := S.ne
  bx := S.bx.guard hn.2
theorem Sim.unguard {G' : Hp} (S : Sim K G' F H σ ρ) (h : Same G G') : Sim K G F H σ ρ where
  hF := S.hF
  hG := S.hG.less h
  len := S.len
  val := S.val
  own := fun i a xs e => by
    obtain ⟨h1, h2, h3, h4⟩ := S.own i a xs e
    exact ⟨h1, h2, h.free h3, h4⟩
  ne := S.ne
  bx := S.bx.unguard h
theorem restore_len (ρ0 ρ : Ro) : ∀ vs : List Nat, (restore ρ0 ρ vs).length = ρ.length
  | [] => rfl
  | v :: vs => by simp [restore, restore_len ρ0 ρ vs]
theorem restore_get {ρ0 ρ : Ro} {c : Cell} : ∀ {vs : List Nat} {j : Nat}, (restore ρ0 ρ vs)[j]? = some (some c) → (j ∈ vs ∧ ∃ d, c = .val d ∧ ρ0[j]? = some (some (.val d))) ∨ (j ∉ vs ∧ ρ[j]? = some (some c))
  | [], j, h => .inr ⟨by simp, h⟩
  | v :: vs, j, h => by
    by_cases hv : v = j
    · subst hv
      refine .inl ⟨by simp, ?_⟩
      have hl : v < (restore ρ0 ρ vs).length := by
        have := lt_of_get h
        simpa [restore] using this
      have h' : ((restore ρ0 ρ vs).set v (valOnly ρ0[v]?))[v]? = some (some c) := h
      rw [List.getElem?_set_self hl] at h'
      have h'' : valOnly ρ0[v]? = some c := Option.some.inj h'
      cases e : ρ0[v]? with
      | none => rw [e] at h''; cases h''
      | some x =>
        rw [e] at h''
        cases x with
        | none => cases h''
        | some y =>
          cases y with
          | val d => cases h''; exact ⟨d, rfl, rfl⟩
          | own a xs => cases h''
          | box t => cases h''
    · have h' : ((restore ρ0 ρ vs).set v (valOnly ρ0[v]?))[j]? = some (some c) := h
      rw [List.getElem?_set_ne hv] at h'
      rcases restore_get h' with ⟨q, r⟩ | ⟨q, r⟩
      · exact .inl ⟨List.mem_cons_of_mem _ q, r⟩
      · refine .inr ⟨fun z => ?_, r⟩
        rcases List.mem_cons.mp z with z | z
        · exact hv z.symm
        · exact q z
theorem Sim.restore {G' F1 H1 : Hp} {σ2 : L2.St} {ρ2 : Ro} {vs : List Nat} (S : Sim K G F H σ ρ) (S2 : Sim K G' F1 H1 σ2 ρ2) (hG : Same G G') (hF : Same F F1) (hl : σ2.length = σ.length) (hj : ∀ j, j ∉ vs → σ2[j]? = σ[j]?) : Sim K G F1 H1 σ (restore ρ ρ2 vs) where
  hF := S2.hF
  hG := S2.hG.less hG
  len := by rw [restore_len, ← S2.len, hl]
  val := fun i d e => by
    rcases restore_get e with ⟨q, d', e', r⟩ | ⟨q, r⟩
    · cases e'
      obtain ⟨v, h1, h2⟩ := S.val i d r
      exact ⟨v, h1, h2.mono hF⟩
    · obtain ⟨v, h1, h2⟩ := S2.val i d r
      exact ⟨v, (hj i q).symm.trans h1, h2⟩
  own := fun i a xs e => by
    rcases restore_get e with ⟨q, d', e', r⟩ | ⟨q, r⟩
    · cases e'
    · obtain ⟨h1, h2, h3, h4⟩ := S2.own i a xs r
      exact ⟨(hj i q).symm.trans h1, h2, hG.free h3, h4⟩
  ne := fun i j a xs ys e1 e2 => by
    rcases restore_get e1 with ⟨_, _, e', _⟩ | ⟨_, r1⟩
    · cases e'
    · rcases restore_get e2 with ⟨_, _, e', _⟩ | ⟨_, r2⟩
      · cases e'
      · exact S2.ne i j a xs ys r1 r2
  bx := S2.bx.to (.refl _) (fun p m => ⟨(S2.bx.free m).1, hG.free (S2.bx.free m).2.1, rfl⟩) (fun i s e => by
    rcases restore_get e with ⟨_, _, e', _⟩ | ⟨q, r⟩
    · cases e'
    · exact ⟨r, (hj i q).symm⟩) fun i a xs e => by
    rcases restore_get e with ⟨_, _, e', _⟩ | ⟨q, r⟩
    · cases e'
    · exact .inl ⟨i, xs, r⟩
theorem restore_box {ρ0 ρ : Ro} {vs : List Nat} {p : Addr} : InBox (restore ρ0 ρ vs) p → InBox ρ p := fun ⟨i, s, e, m⟩ => by
  rcases restore_get e with ⟨_, _, e', _⟩ | ⟨q, r⟩
  · cases e'
  · exact ⟨i, s, r, m⟩
end
def lcW (vs : List Nat) (g : TGp) (tt : TTp) (te : TEp) (Q : List D → Ro → Prop) : List D → List D → Ro → Prop
  | [], acc, ρ => Q acc ρ
  | d :: ds, acc, ρ => g d (wipeP ρ vs) fun ρ2 => tt ρ2 fun b ρ3 => if b = true then te ρ3 fun y ρ4 => acc.length < sizeLine ∧ lcW vs g tt te Q ds (acc ++ [y]) (restore ρ ρ4 vs) else lcW vs g tt te Q ds acc (restore ρ ρ3 vs)
def pLcO (Ti : TAp) (g : TGp) (tt : TTp) (te : TEp) (vs : List Nat) : TCp := fun ρ Q => Ti ρ fun ds ρ1 => lcW vs g tt te (fun acc ρ2 => ∀ a, Q (.own a acc) ρ2) ds [] ρ1
def pLc (Ti : TAp) (g : TGp) (tt : TTp) (te : TEp) (vs : List Nat) : TEp := fun ρ Q => Ti ρ fun ds ρ1 => lcW vs g tt te (fun acc ρ2 => Q (.lst acc) ρ2) ds [] ρ1
theorem snd_lc {K : PySem.W.Frag} {wi : TI} {Ti : TAp} {g : TG} {Gp : TGp} {is : List Nat} {tt : TT} {Tt : TTp} {te : TE} {Te : TEp} {vs : List Nat} (hi : SndI K wi Ti) (hg : SndG K g Gp is) (ht : SndT K tt Tt) (he : SndE K te Te) (hsub : ∀ i ∈ is, i ∈ vs) : SndC K (tLc wi g tt te vs) (pLcO Ti Gp Tt Te vs) := fun G F H σ ρ Q R S h k =>
  hi G F H σ ρ _ _ S h fun J ds F1 H1 ρ1 u1 S1 J1 w1 => fun D hD => by
    refine ⟨fun i m H' => m + i = ds.length ∧ ∃ F' ρ' acc, Up G F1 F' ∧ Sim K G F' H' (σ ++ [some (.ref D)]) (ρ' ++ [some (.own D acc)]) ∧ lcW vs Gp Tt Te (fun acc ρ2 => ∀ a, Q (.own a acc) ρ2) (ds.drop i) acc ρ', ⟨ds.length, by omega, F1, ρ1, [], .refl _ _, S1.newOwn hD .nil, w1⟩, fun i m H' hW => ?_⟩
    obtain ⟨hm, F', ρ', acc, u', S0, w'⟩ := hW
    have S' := S0.drop
    obtain ⟨_, hFD, hGD, hnD, av, hHD, rD⟩ := S0.lastOwn
    have J' := J1 F' H' u'.ex S'.hF
    by_cases hlt : i < ds.length
    · refine .inr ⟨(J'.1 i ds[i] (List.getElem?_eq_getElem hlt)).1, fun H'' => ∃ F'' ρ'' acc, Up G F1 F'' ∧ Sim K G F'' H'' (σ ++ [some (.ref D)]) (ρ'' ++ [some (.own D acc)]) ∧ lcW vs Gp Tt Te (fun acc ρ2 => ∀ a, Q (.own a acc) ρ2) (ds.drop (i + 1)) acc ρ'', fun H'' q => ⟨m - 1, by omega, by omega, q⟩, fun x H'' hy => ?_⟩
      obtain ⟨F2, res⟩ := (J'.1 i ds[i] (List.getElem?_eq_getElem hlt)).2 x H'' hy
      have Sg : Sim K (upd G D (.lst av)) F' H' σ ρ' := S'.guard hHD hnD
      obtain ⟨u2, S2, r2⟩ := Sg.res res
      have hGG : Same G (upd G D (.lst av)) := same_new hGD
      rw [List.drop_eq_getElem_cons hlt] at w'
      refine hg (upd G D (.lst av)) F2 H'' (wipe σ vs) (wipeP ρ' vs) _ _ x _ (S2.wipe vs) r2 w' fun F3 H3 σ3 ρ3 u3 S3 o3 l3 q3 => ?_
      have hl3 : σ3.length = σ.length := by rw [l3, wipe_length]
      have ho3 : ∀ j, j ∉ vs → σ3[j]? = (wipe σ vs)[j]? := fun j hj => o3 j fun z => hj (hsub j z)
      have hoσ : ∀ j, j ∉ vs → σ3[j]? = σ[j]? := fun j hj => by rw [ho3 j hj, wipe_get, if_neg (fun q => hj q.1)]
      refine ⟨wipe_eq hl3 ho3, ht (upd G D (.lst av)) F3 H3 σ3 ρ3 _ _ S3 q3 fun b F4 H4 ρ4 u4 S4 q4 => ?_⟩
      cases b with
      | true =>
        refine ite_ti (he (upd G D (.lst av)) F4 H4 σ3 ρ4 _ _ S4 (ite_t q4) fun y dy F5 H5 ρ5 u5 S5 r5 q5 => ?_)
        have up := ((u2.trans u3).trans u4).trans u5
        have hH5 : H5 D = some (.lst av) := S5.hG D _ upd_same
        have hF5 : F5 D = none := up.isNone hFD upd_same
        have S6 : Sim K G F5 H5 σ (Pl.restore ρ' ρ5 vs) := S'.restore S5 hGG up.ex hl3 hoσ
        have hn6 : NotOwn (Pl.restore ρ' ρ5 vs) D := ⟨fun j xs e => (by
          rcases restore_get e with ⟨_, _, e', _⟩ | ⟨_, r⟩
          · cases e'
          · have := (S5.own j D xs r).2.2.1
            rw [upd_same] at this; cases this), fun m => S5.bx.notG upd_same (restore_box m)⟩
        have r6 : Reps K F5 (av ++ [y]) (acc ++ [dy]) := (rD.mono up.ex).append (.one r5)
        refine ⟨av, hH5, by rw [rD.length]; exact q5.1, F5, _, acc ++ [dy], u'.trans (up.less hGG), ?_, q5.2⟩
        exact (S6.updFree hH5 hF5 hGD hn6).pushOwn upd_same hF5 hGD hn6 r6
      | false =>
        refine ite_fi ⟨F4, _, acc, u'.trans (((u2.trans u3).trans u4).less hGG), ?_, ite_f q4⟩
        have up := (u2.trans u3).trans u4
        have hH4 : H4 D = some (.lst av) := S4.hG D _ upd_same
        have hF4 : F4 D = none := up.isNone hFD upd_same
        have S6 : Sim K G F4 H4 σ (Pl.restore ρ' ρ4 vs) := S'.restore S4 hGG up.ex hl3 hoσ
        have hn6 : NotOwn (Pl.restore ρ' ρ4 vs) D := ⟨fun j xs e => (by
          rcases restore_get e with ⟨_, _, e', _⟩ | ⟨_, r⟩
          · cases e'
          · have := (S4.own j D xs r).2.2.1
            rw [upd_same] at this; cases this), fun m => S4.bx.notG upd_same (restore_box m)⟩
        exact S6.pushOwn hH4 hF4 hGD hn6 (rD.mono up.ex)
    · have e : i = ds.length := by omega
      subst e
      rw [List.drop_length] at w'
      exact .inl ⟨J'.2, k _ _ F' H' ρ' (u1.trans u') S0 (w' D)⟩
structure PPTs (X : Cx) (ifs : List Expr) (t : TT) (T : TTp) : Prop where
  pt : PTs X ifs t
  snd : SndT X.K t T
def pYes : TTp := fun ρ Q => Q true ρ
theorem ppts_nil {X : Cx} : PPTs X [] tYes pYes := ⟨pts_nil, fun G F H σ ρ Q R S h k => k true F H ρ (.refl _ _) S h⟩
theorem ppts_one {X : Cx} {c : Expr} {t : TT} {T : TTp} (h : PPT X c t T) : PPTs X [c] t T := ⟨pts_one h.pt, h.snd⟩
section
variable {X : Cx} {elt tg iter : Expr} {ifs : List Expr} {scope : Scope} {own : List (Str × Nat)} {pos : Pos} {wi : TI} {Ti : TAp} {g : TG} {Gp : TGp} {is : List Nat} {tt : TT} {Tt : TTp} {te : TE} {Te : TEp} {vs : List Nat}
theorem ppc_lc (hc : X.calm = true) (hN : X.N.Nodup) (hi : PPI X tg iter wi Ti) (ok : BlkOk X.N X.env.scope scope own)
    (hg : ∀ (s : Shared) (H : Hp) (C : Addr) (cl : List (Str × Addr)) (fp : List Addr), PTg (X.blk s H scope (compEnvC scope cl C X.env) fp) tg g Gp is) (ht : ∀ (s : Shared) (H : Hp) (C : Addr) (cl : List (Str × Addr)) (fp : List Addr), PPTs (X.blk s H scope (compEnvC scope cl C X.env) fp) ifs tt Tt)
    (he : ∀ (s : Shared) (H : Hp) (C : Addr) (cl : List (Str × Addr)) (fp : List Addr), PPE (X.blk s H scope (compEnvC scope cl C X.env) fp) elt te Te) (hs : ∀ x, foldedSetIterable iter X.env x = pure x := by intro _; rfl) (hsub : ∀ i ∈ is, i ∈ own.map (·.2) := by decide) :
    PPC X (.ListComp elt [⟨tg, iter, ifs, 0⟩] scope pos) (tLc wi g tt te (own.map (·.2))) (pLcO Ti Gp Tt Te (own.map (·.2))) := by
  refine ⟨pe_lc hc hN hi.pi ok (fun s H C cl fp => (hg s H C cl fp).pg) (fun s H C cl fp => (ht s H C cl fp).pt) (fun s H C cl fp => (he s H C cl fp).pe) hs, ?_⟩
  exact snd_lc hi.snd (hg X.s_0 (fun _ => none) 0 [] []).snd (ht X.s_0 (fun _ => none) 0 [] []).snd (he X.s_0 (fun _ => none) 0 [] []).snd hsub
theorem snd_lcV {K : PySem.W.Frag} {t : TE} (h : SndC K t (pLcO Ti Gp Tt Te vs)) : SndE K t (pLc Ti Gp Tt Te vs) := fun G F H σ ρ Q R S hT k => h G F H σ ρ (fun c ρ' => Q c.froz ρ') R S (by
    unfold pLcO
    unfold pLc at hT
    have e : (fun (acc : List D) (ρ2 : Ro) => ∀ a : Addr, Q (Cell.froz (.own a acc)) ρ2) = fun acc ρ2 => Q (.lst acc) ρ2 := by
      funext acc ρ2
      exact propext ⟨fun q => q 0, fun q _ => q⟩
    show Ti ρ fun ds ρ1 => lcW vs Gp Tt Te (fun acc ρ2 => ∀ a : Addr, Q (Cell.froz (.own a acc)) ρ2) ds [] ρ1
    rw [e]
    exact hT) fun v c F' H' ρ' u S' q => by
  obtain ⟨F2, u2, S2, r2⟩ := S'.froz
  exact k v _ F2 H' ρ' (u.trans u2) S2 r2 q
theorem ppe_lc (hc : X.calm = true) (hN : X.N.Nodup) (hi : PPI X tg iter wi Ti) (ok : BlkOk X.N X.env.scope scope own)
    (hg : ∀ (s : Shared) (H : Hp) (C : Addr) (cl : List (Str × Addr)) (fp : List Addr), PTg (X.blk s H scope (compEnvC scope cl C X.env) fp) tg g Gp is) (ht : ∀ (s : Shared) (H : Hp) (C : Addr) (cl : List (Str × Addr)) (fp : List Addr), PPTs (X.blk s H scope (compEnvC scope cl C X.env) fp) ifs tt Tt)
    (he : ∀ (s : Shared) (H : Hp) (C : Addr) (cl : List (Str × Addr)) (fp : List Addr), PPE (X.blk s H scope (compEnvC scope cl C X.env) fp) elt te Te) (hs : ∀ x, foldedSetIterable iter X.env x = pure x := by intro _; rfl) (hsub : ∀ i ∈ is, i ∈ own.map (·.2) := by decide) :
    PPE X (.ListComp elt [⟨tg, iter, ifs, 0⟩] scope pos) (tLc wi g tt te (own.map (·.2))) (pLc Ti Gp Tt Te (own.map (·.2))) := by
  have h := ppc_lc (pos := pos) hc hN hi ok hg ht he hs hsub
  exact ⟨h.pe, snd_lcV h.snd⟩
theorem pps_setLc {i : Nat} {y : Str} {py spos : Pos} (hc : X.calm = true) (hN : X.N.Nodup) (hi : PPI X tg iter wi Ti) (ok : BlkOk X.N X.env.scope scope own)
    (hg : ∀ (s : Shared) (H : Hp) (C : Addr) (cl : List (Str × Addr)) (fp : List Addr), PTg (X.blk s H scope (compEnvC scope cl C X.env) fp) tg g Gp is) (ht : ∀ (s : Shared) (H : Hp) (C : Addr) (cl : List (Str × Addr)) (fp : List Addr), PPTs (X.blk s H scope (compEnvC scope cl C X.env) fp) ifs tt Tt)
    (he : ∀ (s : Shared) (H : Hp) (C : Addr) (cl : List (Str × Addr)) (fp : List Addr), PPE (X.blk s H scope (compEnvC scope cl C X.env) fp) elt te Te)
    (hy : X.N[i]? = some y := by rfl) (hyl : X.env.scope.names.lookup y = some .local := by rfl)
    (hsw : swapsWith (.ListComp elt [⟨tg, iter, ifs, 0⟩] scope pos) (some (.Name y py)) spos.line X.env = pure true := by exact sw_true rfl rfl rfl (by decide +kernel)) (hs : ∀ x, foldedSetIterable iter X.env x = pure x := by intro _; rfl) (hsub : ∀ i ∈ is, i ∈ own.map (·.2) := by decide) :
    PPS X (.Assign [.Name y py] (.ListComp elt [⟨tg, iter, ifs, 0⟩] scope pos) spos) (tAsg (tLc wi g tt te (own.map (·.2))) (gName i)) (pSet i (pLcO Ti Gp Tt Te (own.map (·.2)))) := by
  have h := ppc_lc (pos := pos) hc hN hi ok hg ht he hs hsub
  exact ⟨ps_setLc hc hN hy hyl hsw hi.pi ok (fun s H C cl fp => (hg s H C cl fp).pg) (fun s H C cl fp => (ht s H C cl fp).pt) (fun s H C cl fp => (he s H C cl fp).pe) hs, snd_set h.snd⟩
end
end Pl
namespace Pl
open PySem PySem.Spec PyProof.Rows L2
variable [TJ]
section
variable {X : Cx} {a b : Expr} {ta tb : TE} {Ta Tb : TEp} {pos : Pos}
theorem Reps.atI {K : PySem.W.Frag} {F : Hp} {vs : List V} {ds : List D} {i : Int} {d : D} (r : Reps K F vs ds) (h : atI ds i = some d) : ∃ v, L2.atI vs i = some v ∧ Rep K F v d := by
  unfold L2.atI at h ⊢
  rw [r.length]
  cases e : ixN ds.length i with
  | none => rw [e] at h; cases h
  | some j => rw [e] at h; exact r.get h
theorem atI_ints {ns : List Int} {i n : Int} (h : L2.atI ns i = some n) : L2.atI (ns.map V.int) i = some (V.int n) := by
  unfold L2.atI at h ⊢
  rw [List.length_map]
  cases e : ixN ns.length i with
  | none => rw [e] at h; cases h
  | some j =>
    rw [e] at h
    show (ns.map V.int)[j]? = some (V.int n)
    have h' : ns[j]? = some n := h
    rw [List.getElem?_map, h']; rfl
def rIxA (K : PySem.W.Frag) : R2 := fun x y H Q => rIxL K x y H Q ∨ (rIxT K x y H Q ∨ rIxS x y H Q)
theorem ix_any : IxR X (rIxA X.K) := IxR.or ix_list (IxR.or ix_tup ix_str)
def fIx : F2 := fun x y Q => match x, y with
  | .lst xs, .int i => ∃ v, atI xs i = some v ∧ Q v
  | .tup xs, .int i => ∃ v, atI xs i = some v ∧ Q v
  | .scr ns, .int i => ∃ n, atI ns i = some n ∧ Q (.int n)
  | .str z, .int i => z.length ≤ sizeLine ∧ ∃ c, atI z.cps.toList i = some c ∧ Q (.str ⟨#[c]⟩)
  | _, _ => False
theorem opp_ix {K : PySem.W.Frag} : OpP K (rIxA K) fIx := fun F H x y dx dy Q R hs rx ry hf k => by
  cases rx with
  | lst h1 r1 =>
    cases ry with
    | int i =>
      obtain ⟨d, e, q⟩ := hf
      obtain ⟨v, e', r⟩ := r1.atI e
      exact .inl ⟨_, _, i, v, rfl, rfl, SqL.of (hs _ _ h1), e', k _ _ _ _ (.old r) q⟩
    | _ => exact hf.elim
  | tup h1 r1 =>
    cases ry with
    | int i =>
      obtain ⟨d, e, q⟩ := hf
      obtain ⟨v, e', r⟩ := r1.atI e
      exact .inr (.inl ⟨_, _, i, v, rfl, rfl, SqT.of (hs _ _ h1), e', k _ _ _ _ (.old r) q⟩)
    | _ => exact hf.elim
  | scr h1 =>
    cases ry with
    | int i =>
      obtain ⟨n, e, q⟩ := hf
      exact .inl ⟨_, _, i, _, rfl, rfl, hs.seq h1, atI_ints e, k _ _ _ _ (.old (.int _)) q⟩
    | _ => exact hf.elim
  | str z =>
    cases ry with
    | int i =>
      obtain ⟨hz, c, e, q⟩ := hf
      exact .inr (.inr ⟨z, i, c, rfl, rfl, hz, e, k _ _ _ _ (.old (.str _)) q⟩)
    | _ => exact hf.elim
  | _ => exact hf.elim
theorem ppe_ix (ha : PPE X a ta Ta) (hb : PPE X b tb Tb) (hs : PlainIx b := by exact fun _ _ => rfl) : PPE X (.Subscript a b pos) (tOp (rIxA X.K) ta tb) (pOp fIx Ta Tb) := ⟨pe_ix ix_any ha.pe hb.pe hs, snd_op opp_ix ha.snd hb.snd⟩
def pIxO (i : Nat) (Tb : TEp) : TEp := fun ρ Q => match ρ[i]? with
  | some (some (.own a _)) => Tb ρ fun y ρ1 => ∃ xs1 k v, ρ1[i]? = some (some (.own a xs1)) ∧ y = .int k ∧ atI xs1 k = some v ∧ Q v ρ1
  | some (some (.val d)) => Tb ρ fun y ρ1 => fIx d y fun z => Q z ρ1
  | _ => False
theorem ppe_ixO (i : Nat) {x : Str} {p : Pos} (hb : PPE X b tb Tb) (hs : PlainIx b := by exact fun _ _ => rfl) (hN : X.N[i]? = some x := by rfl) (hv : Vis X.env.scope x := by first | exact Or.inl rfl | exact Or.inr (Or.inl rfl) | exact Or.inr (Or.inr rfl)) (hd : (x == ("__debug__" : Str)) = false := by decide)
    (hcd : (x == ("__classdict__" : Str)) = false := by decide) : PPE X (.Subscript (.Name x p) b pos) (tOp (rIxA X.K) (tVar i) tb) (pIxO i Tb) := ⟨pe_ix ix_any (pe_var hN hv hd hcd) hb.pe hs, fun G F H σ ρ Q R S hT k => by
  unfold pIxO at hT
  split at hT
  · rename_i a xs e
    refine ⟨.ref a, (S.own i a xs e).1, hb.snd G F H σ ρ _ _ S hT fun y dy F1 H1 ρ1 u1 S1 r1 q1 => ?_⟩
    obtain ⟨xs1, kk, v, e1, rfl, e2, q⟩ := q1
    obtain ⟨h1, h2, h3, vs, h4, h5⟩ := S1.own i a xs1 e1
    obtain ⟨w, ew, rw'⟩ := h5.atI e2
    cases r1
    exact .inl ⟨a, vs, kk, w, rfl, rfl, SqL.of h4, ew, k _ _ F1 H1 ρ1 u1 S1 rw' q⟩
  · rename_i d e
    obtain ⟨v, h1, h2⟩ := S.val i d e
    refine ⟨v, h1, hb.snd G F H σ ρ _ _ S hT fun y dy F1 H1 ρ1 u1 S1 r1 q1 => ?_⟩
    refine opp_ix F1 H1 v y d dy _ _ S1.hF (h2.mono u1.ex) r1 q1 fun w dw F2 H2 res q => ?_
    obtain ⟨u2, S2, r2⟩ := S1.res res
    exact k w dw F2 H2 ρ1 (u1.trans u2) S2 r2 q
  · exact hT.elim⟩
theorem Reps.cut {K : PySem.W.Frag} {F : Hp} {vs : List V} {ds : List D} (r : Reps K F vs ds) (lo hi : Option Int) : Reps K F (cutV vs lo hi) ((ds.drop (HT.sIx ds.length 0 lo)).take (HT.sIx ds.length ds.length hi - HT.sIx ds.length 0 lo)) := by
  unfold cutV
  rw [r.length]
  exact (r.drop _).take _
def cutD (xs : List D) (lo hi : Option Int) : List D := (xs.drop (HT.sIx xs.length 0 lo)).take (HT.sIx xs.length xs.length hi - HT.sIx xs.length 0 lo)
def rSlX (K : PySem.W.Frag) : V → Option Int → Option Int → Hp → VK → Prop := fun x lo hi H Q => rSlL K x lo hi H Q ∨ rSlA K x lo hi H Q
theorem sl_any : SlR X (rSlX X.K) := SlR.or sl_list sl_tupA
abbrev TOp := Ro → (Option Int → Ro → Prop) → Prop
def pNoPart : TOp := fun ρ Q => Q none ρ
def pPart (T : TEp) : TOp := fun ρ Q => T ρ fun x ρ1 => match x with | .int i => Q (some i) ρ1 | _ => False
def SndO (K : PySem.W.Frag) (t : TO) (T : TOp) : Prop := ∀ (G F H : Hp) (σ : L2.St) (ρ : Ro) (Q : Option Int → Ro → Prop) (R : Option Int → Hp → Prop), Sim K G F H σ ρ → T ρ Q →
  (∀ o F' H' ρ', Up G F F' → Sim K G F' H' σ ρ' → Q o ρ' → R o H') → t σ H R
structure PPO (X : Cx) (e : Option Expr) (t : TO) (T : TOp) : Prop where
  po : PO X e t
  snd : SndO X.K t T
theorem ppo_none : PPO X none tNoPart pNoPart := ⟨po_none, fun G F H σ ρ Q R S h k => k none F H ρ (.refl _ _) S h⟩
theorem ppo_some (h : PPE X a ta Ta) : PPO X (some a) (tPart ta) (pPart Ta) := ⟨po_some h.pe, fun G F H σ ρ Q R S hT k => h.snd G F H σ ρ _ _ S hT fun v d F' H' ρ' u S' r q => by
  cases r with
  | int i => exact ⟨i, rfl, k _ F' H' ρ' u S' q⟩
  | _ => exact q.elim⟩
def fSl (x : D) (lo hi : Option Int) (Q : D → Prop) : Prop := match x with
  | .lst xs => Q (.lst (cutD xs lo hi))
  | .tup xs => Q (.tup (cutD xs lo hi))
  | _ => False
theorem cutD_all {xs : List D} {lo hi : Option Int} (h : HT.sIx xs.length 0 lo = 0 ∧ HT.sIx xs.length xs.length hi = xs.length) : cutD xs lo hi = xs := by
  unfold cutD
  rw [h.1, h.2]
  simp
def pSl (Te : TEp) (Tl Th : TOp) : TEp := fun ρ Q => Te ρ fun x ρ1 => Tl ρ1 fun l ρ2 => Th ρ2 fun u ρ3 => fSl x l u fun z => Q z ρ3
theorem ppe_slice {lo hi : Option Expr} {tl th : TO} {Tl Th : TOp} {p2 : Pos} (ha : PPE X a ta Ta) (hl : PPO X lo tl Tl) (hh : PPO X hi th Th) : PPE X (.Subscript a (.Slice lo hi none p2) pos) (tSl (rSlX X.K) ta tl th) (pSl Ta Tl Th) := ⟨pe_slice sl_any ha.pe hl.po hh.po, fun G F H σ ρ Q R S hT k =>
  ha.snd G F H σ ρ _ _ S hT fun v d F1 H1 ρ1 u1 S1 r1 q1 => hl.snd G F1 H1 σ ρ1 _ _ S1 q1 fun l F2 H2 ρ2 u2 S2 q2 => hh.snd G F2 H2 σ ρ2 _ _ S2 q2 fun h F3 H3 ρ3 u3 S3 q3 => by
    have r3 := (r1.mono u2.ex).mono u3.ex
    have up := (u1.trans u2).trans u3
    cases r3 with
    | lst e r =>
      refine .inl ⟨_, _, rfl, SqL.of (S3.hF _ _ e), fun p hp => k _ _ _ _ ρ3 (up.trans (S3.upNew hp)) (S3.new hp) (.lst upd_same ((r.mono (same_new (S3.freshF hp))).cut l h)) q3⟩
    | tup e r =>
      refine .inr ⟨_, _, rfl, SqT.of (S3.hF _ _ e), fun hw => ?_, fun _ p hp => k _ _ _ _ ρ3 (up.trans (S3.upNew hp)) (S3.new hp) (.tup upd_same ((r.mono (same_new (S3.freshF hp))).cut l h)) q3⟩
      rw [r.length] at hw
      have q3' : Q _ ρ3 := q3
      rw [cutD_all hw] at q3'
      exact k _ _ F3 H3 ρ3 up S3 (.tup e r) q3'
    | _ => exact q3.elim⟩
def fRev (x : D) (Q : D → Prop) : Prop := match x with
  | .lst xs => Q (.lst xs.reverse)
  | .tup xs => Q (.tup xs.reverse)
  | _ => False
theorem ppe_rev {k : Nat} {p1 p2 p3 : Pos} (ha : PPE X a ta Ta) : PPE X (.Subscript a (.Slice none none (some (.UnaryOp .USub (.Constant (.int 1) k p1) p2)) p3) pos) (tRevA X.K ta) (pUn fRev Ta) := ⟨pe_revA ha.pe, fun G F H σ ρ Q R S hT kk =>
  ha.snd G F H σ ρ _ _ S hT fun v d F1 H1 ρ1 u1 S1 r1 q1 => by
    cases r1 with
    | lst e r => exact ⟨_, _, rfl, .inl ⟨SqL.of (S1.hF _ _ e), fun p hp => kk _ _ _ _ ρ1 (u1.trans (S1.upNew hp)) (S1.new hp) (.lst upd_same (r.mono (same_new (S1.freshF hp))).reverse) q1⟩⟩
    | tup e r => exact ⟨_, _, rfl, .inr ⟨SqT.of (S1.hF _ _ e), fun p hp => kk _ _ _ _ ρ1 (u1.trans (S1.upNew hp)) (S1.new hp) (.tup upd_same (r.mono (same_new (S1.freshF hp))).reverse) q1⟩⟩
    | _ => exact q1.elim⟩
abbrev FC := List D → (D → Prop) → Prop
theorem Reps.inv1 {K : PySem.W.Frag} {F : Hp} {vs : List V} {d : D} (r : Reps K F vs [d]) : ∃ v, vs = [v] ∧ Rep K F v d := by
  cases r with | cons h t => cases t; exact ⟨_, rfl, h⟩
theorem Rep.lstInv {K : PySem.W.Frag} {F : Hp} {v : V} {xs : List D} (r : Rep K F v (.lst xs)) : ∃ a vs, v = .ref a ∧ F a = some (.lst vs) ∧ Reps K F vs xs := by
  cases r with | lst e r => exact ⟨_, _, rfl, e, r⟩
theorem Rep.tupInv {K : PySem.W.Frag} {F : Hp} {v : V} {xs : List D} (r : Rep K F v (.tup xs)) : ∃ a vs, v = .ref a ∧ F a = some (.tup vs) ∧ Reps K F vs xs := by
  cases r with | tup e r => exact ⟨_, _, rfl, e, r⟩
theorem Rep.intInv {K : PySem.W.Frag} {F : Hp} {v : V} {i : Int} (r : Rep K F v (.int i)) : v = .int i := by cases r; rfl
theorem Rep.blInv {K : PySem.W.Frag} {F : Hp} {v : V} {i : Bool} (r : Rep K F v (.bl i)) : v = .bl i := by cases r; rfl
theorem Rep.strInv {K : PySem.W.Frag} {F : Hp} {v : V} {i : Str} (r : Rep K F v (.str i)) : v = .str i := by cases r; rfl
theorem Rep.scrInv {K : PySem.W.Frag} {F : Hp} {v : V} {ns : List Int} (r : Rep K F v (.scr ns)) : ∃ a, v = .ref a ∧ SqL K F a (ns.map V.int) := by cases r with | scr h => exact ⟨_, rfl, h⟩
def fLen : FC := fun ds Q => match ds with
  | [.lst xs] => Q (.int xs.length)
  | [.tup xs] => Q (.int xs.length)
  | [.scr ns] => Q (.int ns.length)
  | [.str z] => z.length ≤ sizeLine ∧ Q (.int z.length)
  | _ => False
def rLenA (K : PySem.W.Frag) : List V → Hp → VK → Prop := fun xs H Q => (∃ p ys, xs = [.ref p] ∧ (SqL K H p ys ∨ SqT K H p ys) ∧ Q (.int ys.length) H) ∨ (∃ z, xs = [.str z] ∧ z.length ≤ sizeLine ∧ Q (.int z.length) H)
theorem cr_lenA : CallR X (.builtin "len") (rLenA X.K) := CallR.or call_len_seq call_len_str
theorem cp_len {K : PySem.W.Frag} : CallP K (rLenA K) fLen := fun F H xs ds Q R hs r hf k => by
  unfold fLen at hf
  split at hf
  · obtain ⟨v, rfl, q1⟩ := r.inv1
    obtain ⟨a, vs, rfl, e, q2⟩ := q1.lstInv
    exact .inl ⟨a, vs, rfl, .inl (SqL.of (hs _ _ e)), by rw [q2.length]; exact k _ _ _ _ (.old (.int _)) hf⟩
  · obtain ⟨v, rfl, q1⟩ := r.inv1
    obtain ⟨a, vs, rfl, e, q2⟩ := q1.tupInv
    exact .inl ⟨a, vs, rfl, .inr (SqT.of (hs _ _ e)), by rw [q2.length]; exact k _ _ _ _ (.old (.int _)) hf⟩
  · obtain ⟨v, rfl, q1⟩ := r.inv1
    obtain ⟨a, rfl, e⟩ := q1.scrInv
    exact .inl ⟨a, _, rfl, .inl (hs.seq e), by rw [List.length_map]; exact k _ _ _ _ (.old (.int _)) hf⟩
  · obtain ⟨v, rfl, q1⟩ := r.inv1
    have := q1.strInv
    subst this
    exact .inr ⟨_, rfl, hf.1, k _ _ _ _ (.old (.int _)) hf.2⟩
  · exact hf.elim
def pLenO (i : Nat) : TEp := fun ρ Q => match ρ[i]? with
  | some (some (.own _ xs)) => Q (.int xs.length) ρ
  | some (some (.val d)) => fLen [d] fun z => Q z ρ
  | _ => False
theorem ppe_lenO (i : Nat) {x : Str} {p q : Pos} (hg : Gl X "len") (hm : X.mg "len" = none) (hN : X.N[i]? = some x := by rfl) (hv : Vis X.env.scope x := by first | exact Or.inl rfl | exact Or.inr (Or.inl rfl) | exact Or.inr (Or.inr rfl)) (hd : (x == ("__debug__" : Str)) = false := by decide)
    (hcd : (x == ("__classdict__" : Str)) = false := by decide) (he : starEach [.Name x q] X.env = [(false, eval (.Name x q) X.env)] := by rfl) : PPE X (.Call (.Name "len" p) [.Name x q] [] pos) (tCB (rLenA X.K) (tCons (tVar i) tNil)) (pLenO i) := ⟨pe_callB cr_lenA hg hm PySem.boot_len (pa_cons (pe_var hN hv hd hcd) pa_nil (by rw [he]; rfl)) (by decide) (by decide) (by rw [he]; rfl) rfl, fun G F H σ ρ Q R S hT k => by
  unfold pLenO at hT
  split at hT
  · rename_i a xs e
    obtain ⟨h1, h2, h3, vs, h4, h5⟩ := S.own i a xs e
    exact ⟨.ref a, h1, .inl ⟨a, vs, rfl, .inl (SqL.of h4), by rw [h5.length]; exact k _ _ F H ρ (.refl _ _) S (.int _) hT⟩⟩
  · rename_i d e
    obtain ⟨v, h1, h2⟩ := S.val i d e
    refine ⟨v, h1, ?_⟩
    refine cp_len F H [v] [d] _ _ S.hF (.cons h2 .nil) hT fun w dw F2 H2 res q => ?_
    obtain ⟨u2, S2, r2⟩ := S.res res
    exact k w dw F2 H2 ρ u2 S2 r2 q
  · exact hT.elim⟩
def iabs (i : Int) : Int := if i < 0 then -i else i
def fAbs : FC := fun ds Q => match ds with | [.int i] => Q (.int (iabs i)) | _ => False
theorem cp_abs {K : PySem.W.Frag} : CallP K (fun xs H Q => ∃ i, xs = [.int i] ∧ Q (.int (if i < 0 then -i else i)) H) fAbs := fun F H xs ds Q R hs r hf k => by
  unfold fAbs at hf
  split at hf
  · rw [r.int1]
    exact ⟨_, rfl, k _ _ _ _ (.old (.int _)) hf⟩
  · exact hf.elim
def fMin2 : FC := fun ds Q => match ds with | [.int i, .int j] => Q (.int (min i j)) | _ => False
def fMax2 : FC := fun ds Q => match ds with | [.int i, .int j] => Q (.int (max i j)) | _ => False
theorem cp_min2 {K : PySem.W.Frag} : CallP K (fun xs H Q => ∃ i j, xs = [.int i, .int j] ∧ Q (.int (if j < i then j else i)) H) fMin2 := fun F H xs ds Q R hs r hf k => by
  unfold fMin2 at hf
  split at hf
  · rename_i i j
    rw [r.int2]
    refine ⟨i, j, rfl, ?_⟩
    rw [show (if j < i then j else i) = min i j by split <;> omega]
    exact k _ _ _ _ (.old (.int _)) hf
  · exact hf.elim
theorem cp_max2 {K : PySem.W.Frag} : CallP K (fun xs H Q => ∃ i j, xs = [.int i, .int j] ∧ Q (.int (if j > i then j else i)) H) fMax2 := fun F H xs ds Q R hs r hf k => by
  unfold fMax2 at hf
  split at hf
  · rename_i i j
    rw [r.int2]
    refine ⟨i, j, rfl, ?_⟩
    rw [show (if j > i then j else i) = max i j by split <;> omega]
    exact k _ _ _ _ (.old (.int _)) hf
  · exact hf.elim
def fBest (g : Int → Int → Int) : FC := fun ds Q => match ds with
  | [.lst xs] => ∃ n ns, xs = (n :: ns).map D.int ∧ Q (.int (ns.foldl g n))
  | [.tup xs] => ∃ n ns, xs = (n :: ns).map D.int ∧ Q (.int (ns.foldl g n))
  | _ => False
theorem cp_best {K : PySem.W.Frag} {g : Int → Int → Int} : CallP K (rBest K g) (fBest g) := fun F H xs ds Q R hs r hf k => by
  unfold fBest at hf
  split at hf
  · obtain ⟨v, rfl, q1⟩ := r.inv1
    obtain ⟨a, vs, rfl, e, q2⟩ := q1.lstInv
    obtain ⟨n, ns, rfl, q⟩ := hf
    have := q2.ints
    subst this
    exact ⟨a, n, ns, rfl, .inl (SqL.of (hs _ _ e)), k _ _ _ _ (.old (.int _)) q⟩
  · obtain ⟨v, rfl, q1⟩ := r.inv1
    obtain ⟨a, vs, rfl, e, q2⟩ := q1.tupInv
    obtain ⟨n, ns, rfl, q⟩ := hf
    have := q2.ints
    subst this
    exact ⟨a, n, ns, rfl, .inr (SqT.of (hs _ _ e)), k _ _ _ _ (.old (.int _)) q⟩
  · exact hf.elim
def bestDD (g : Int → Int → Int) (d : D) : List Int → D
  | [] => d
  | n :: ns => .int (ns.foldl g n)
def pDflt (g : Int → Int → Int) (Te Td : TEp) : TEp := fun ρ Q => Te ρ fun x ρ1 => Td ρ1 fun d ρ2 => match x with
  | .lst xs => ∃ ns, xs = ns.map D.int ∧ Q (bestDD g d ns) ρ2
  | _ => False
theorem snd_dflt {K : PySem.W.Frag} {g : Int → Int → Int} (ha : SndE K ta Ta) (hb : SndE K tb Tb) : SndE K (tDflt K g ta tb) (pDflt g Ta Tb) := fun G F H σ ρ Q R S hT k =>
  ha G F H σ ρ _ _ S hT fun v d F1 H1 ρ1 u1 S1 r1 q1 => hb G F1 H1 σ ρ1 _ _ S1 q1 fun w e F2 H2 ρ2 u2 S2 r2 q2 => by
    cases r1 with
    | lst h r =>
      obtain ⟨ns, rfl, q⟩ := q2
      have := r.ints
      subst this
      refine ⟨_, ns, rfl, SqL.of (S2.hF _ _ (u2.ex _ _ h)), k _ (bestDD g e ns) F2 H2 ρ2 (u1.trans u2) S2 ?_ q⟩
      cases ns with
      | nil => exact r2
      | cons n ns => exact .int _
    | _ => exact q2.elim
theorem ppe_maxD {p kp : Pos} (hg : Gl X "max") (hm : X.mg "max" = none) (hc : X.calm = true) (hu : X.A.units + 64 < cLine) (he : PPE X a ta Ta) (hd : PPE X b tb Tb) (hs : starEach [a] X.env = [(false, eval a X.env)] := by rfl) : PPE X (.Call (.Name "max" p) [a] [⟨some "default", b, kp⟩] pos) (tDflt X.K max ta tb) (pDflt max Ta Tb) := ⟨pe_maxDflt hg hm hc hu he.pe hd.pe hs, snd_dflt he.snd hd.snd⟩
theorem ppe_minD {p kp : Pos} (hg : Gl X "min") (hm : X.mg "min" = none) (hc : X.calm = true) (hu : X.A.units + 64 < cLine) (he : PPE X a ta Ta) (hd : PPE X b tb Tb) (hs : starEach [a] X.env = [(false, eval a X.env)] := by rfl) : PPE X (.Call (.Name "min" p) [a] [⟨some "default", b, kp⟩] pos) (tDflt X.K min ta tb) (pDflt min Ta Tb) := ⟨pe_minDflt hg hm hc hu he.pe hd.pe hs, snd_dflt he.snd hd.snd⟩
def fInt1 : FC := fun ds Q => match ds with
  | [.int i] => Q (.int i)
  | [.bl b] => Q (.int (if b = true then 1 else 0))
  | _ => False
theorem cp_int1 {K : PySem.W.Frag} : CallP K (fun xs H Q => (∃ i, xs = [.int i] ∧ Q (.int i) H) ∨ ∃ k, xs = [.bl k] ∧ Q (.int (if k then 1 else 0)) H) fInt1 := fun F H xs ds Q R hs r hf k => by
  unfold fInt1 at hf
  split at hf
  · rw [r.int1]; exact .inl ⟨_, rfl, k _ _ _ _ (.old (.int _)) hf⟩
  · obtain ⟨v, rfl, q1⟩ := r.inv1
    have := q1.blInv
    subst this
    exact .inr ⟨_, rfl, k _ _ _ _ (.old (.int _)) hf⟩
  · exact hf.elim
def fAll : FC := fun ds Q => match ds with | [.lst xs] => ∃ bs : List Bool, xs = bs.map D.bl ∧ Q (.bl (bs.all id)) | _ => False
def fAny : FC := fun ds Q => match ds with | [.lst xs] => ∃ bs : List Bool, xs = bs.map D.bl ∧ Q (.bl (bs.any id)) | _ => False
theorem cp_all {K : PySem.W.Frag} : CallP K (rAll K) fAll := fun F H xs ds Q R hs r hf k => by
  unfold fAll at hf
  split at hf
  · obtain ⟨v, rfl, q1⟩ := r.inv1
    obtain ⟨a, vs, rfl, e, q2⟩ := q1.lstInv
    obtain ⟨bs, rfl, q⟩ := hf
    have := q2.bls
    subst this
    exact ⟨a, bs, rfl, SqL.of (hs _ _ e), k _ _ _ _ (.old (.bl _)) q⟩
  · exact hf.elim
theorem cp_any {K : PySem.W.Frag} : CallP K (rAny K) fAny := fun F H xs ds Q R hs r hf k => by
  unfold fAny at hf
  split at hf
  · obtain ⟨v, rfl, q1⟩ := r.inv1
    obtain ⟨a, vs, rfl, e, q2⟩ := q1.lstInv
    obtain ⟨bs, rfl, q⟩ := hf
    have := q2.bls
    subst this
    exact ⟨a, bs, rfl, SqL.of (hs _ _ e), k _ _ _ _ (.old (.bl _)) q⟩
  · exact hf.elim
def fTup : FC := fun ds Q => match ds with
  | [.lst xs] => Q (.tup xs)
  | [.tup xs] => Q (.tup xs)
  | _ => False
theorem cp_tup {K : PySem.W.Frag} : CallP K (fun xs H Q => ∃ p ys, xs = [.ref p] ∧ ((SqL K H p ys ∧ ∀ l, H l = none → Q (.ref l) (upd H l (.tup ys))) ∨ (SqT K H p ys ∧ Q (.ref p) H))) fTup := fun F H xs ds Q R hs r hf k => by
  unfold fTup at hf
  split at hf
  · obtain ⟨v, rfl, q1⟩ := r.inv1
    obtain ⟨a, vs, rfl, e, q2⟩ := q1.lstInv
    exact ⟨a, vs, rfl, .inl ⟨SqL.of (hs _ _ e), fun l hl => k _ _ _ _ (.new hl (.tup upd_same (q2.mono (same_new (hs.free hl))))) hf⟩⟩
  · obtain ⟨v, rfl, q1⟩ := r.inv1
    obtain ⟨a, vs, rfl, e, q2⟩ := q1.tupInv
    exact ⟨a, vs, rfl, .inr ⟨SqT.of (hs _ _ e), k _ _ _ _ (.old (.tup e q2)) hf⟩⟩
  · exact hf.elim
def fLst : FC := fun ds Q => match ds with
  | [.lst xs] => Q (.lst xs)
  | [.tup xs] => Q (.lst xs)
  | [.scr ns] => Q (.lst (ns.map D.int))
  | _ => False
def rLstA (K : PySem.W.Frag) : List V → Hp → VK → Prop := fun xs H Q => ∃ p ys, xs = [.ref p] ∧ (SqL K H p ys ∨ SqT K H p ys) ∧ ∀ l, H l = none → Q (.ref l) (upd H l (.lst ys))
theorem cp_lst {K : PySem.W.Frag} : CallP K (rLstA K) fLst := fun F H xs ds Q R hs r hf k => by
  unfold fLst at hf
  split at hf
  · obtain ⟨v, rfl, q1⟩ := r.inv1
    obtain ⟨a, vs, rfl, e, q2⟩ := q1.lstInv
    exact ⟨a, vs, rfl, .inl (SqL.of (hs _ _ e)), fun l hl => k _ _ _ _ (.new hl (.lst upd_same (q2.mono (same_new (hs.free hl))))) hf⟩
  · obtain ⟨v, rfl, q1⟩ := r.inv1
    obtain ⟨a, vs, rfl, e, q2⟩ := q1.tupInv
    exact ⟨a, vs, rfl, .inr (SqT.of (hs _ _ e)), fun l hl => k _ _ _ _ (.new hl (.lst upd_same (q2.mono (same_new (hs.free hl))))) hf⟩
  · obtain ⟨v, rfl, q1⟩ := r.inv1
    obtain ⟨a, rfl, e⟩ := q1.scrInv
    exact ⟨a, _, rfl, .inl (hs.seq e), fun l hl => k _ _ _ _ (.new hl (.lst upd_same (Reps.ofInts _))) hf⟩
  · exact hf.elim
def pLstCO (T : TAp) : TCp := fun ρ Q => T ρ fun ds ρ1 => match ds with
  | [.lst xs] => ∀ a, Q (.own a xs) ρ1
  | [.tup xs] => ∀ a, Q (.own a xs) ρ1
  | _ => False
theorem ppc_list {e : Expr} {t : TA} {T : TAp} {p : Pos} (hg : Gl X "list") (hm : X.mg "list" = none) (ha : PPA X [e] t T)
    (he : starEach [e] X.env = (false, eval e X.env) :: starEach [] X.env := by rfl) : PPC X (.Call (.Name "list" p) [e] [] pos) (tCB (rLstA X.K) t) (pLstCO T) := ⟨pe_callTy call_list_of hg hm (by decide +kernel) ha.pa (by decide) (by decide) he rfl, fun G F H σ ρ Q R S hT k =>
  ha.snd G F H σ ρ _ _ S hT fun vs ds F1 H1 ρ1 u1 S1 r1 h1 => by
    match ds, r1, h1 with
    | [.lst xs], r1, h1 =>
      obtain ⟨v, rfl, q1⟩ := r1.inv1
      obtain ⟨a, ws, rfl, e, q2⟩ := q1.lstInv
      exact ⟨a, ws, rfl, .inl (SqL.of (S1.hF _ _ e)), fun l hl => k _ _ _ _ ρ1 u1 (S1.newOwn hl q2) (h1 l)⟩
    | [.tup xs], r1, h1 =>
      obtain ⟨v, rfl, q1⟩ := r1.inv1
      obtain ⟨a, ws, rfl, e, q2⟩ := q1.tupInv
      exact ⟨a, ws, rfl, .inr (SqT.of (S1.hF _ _ e)), fun l hl => k _ _ _ _ ρ1 u1 (S1.newOwn hl q2) (h1 l)⟩⟩
end
section
variable {X : Cx} {e : Expr} {te : TE} {Te : TEp} {pos : Pos}
def pAppend (i : Nat) (Te : TEp) : TSp := fun P ρ => match ρ[i]? with
  | some (some (.own a _)) => Te ρ fun y ρ1 => ∃ xs1, ρ1[i]? = some (some (.own a xs1)) ∧ xs1.length < sizeLine ∧ P.nx (ρ1.set i (some (.own a (xs1 ++ [y]))))
  | _ => False
theorem pps_append (i : Nat) {x : Str} {p ap cp : Pos} (he : PPE X e te Te) (hN : X.N[i]? = some x := by rfl) (hv : Vis X.env.scope x := by first | exact Or.inl rfl | exact Or.inr (Or.inl rfl) | exact Or.inr (Or.inr rfl)) (hd : (x == ("__debug__" : Str)) = false := by decide)
    (hcd : (x == ("__classdict__" : Str)) = false := by decide)
    (hbase : attributeBase (.Name x p) "append" X.env (eval (.Name x p) X.env) = eval (.Name x p) X.env := by rfl)
    (hfew : ((backTo cp (starEach [e] X.env)).all (fun x => !x.1) && (backToKw cp (keywordEach [] X.env)).all (fun x => x.1.isSome)
      && decide ([e].length + ([] : List Keyword).length + (if ([] : List Keyword).isEmpty then 0 else 1) < 30)) = true := by rfl)
    (hline : (ap.endLine == cp.line) = true := by rfl) (hs : starEach [e] X.env = (false, eval e X.env) :: starEach [] X.env := by rfl)
    (hsw : swapsWith (.Call (.Attribute (.Name x p) "append" ap) [e] [] cp) none pos.line X.env = pure false := by rfl) :
    PPS X (.Expr (.Call (.Attribute (.Name x p) "append" ap) [e] [] cp) pos) (tDrop (tBM X.K "list" rAppend (tVar i) (tCons te tNil))) (pAppend i Te) := ⟨ps_expr (pe_bm PySem.F.plainAttrs_list PySem.F.slot_list_append PySem.F.type_list_append mt_append (pe_var hN hv hd hcd) (pa_cons he.pe pa_nil hs) hbase hfew hline hs rfl) hsw, fun G F H σ ρ P D S hT r => by
  unfold pAppend at hT
  split at hT
  · rename_i a xs e0
    obtain ⟨h1, h2, h3, vs, h4, h5⟩ := S.own i a xs e0
    refine ⟨.ref a, h1, .inl ⟨rfl, _, SqL.of h4⟩, he.snd G F H σ ρ _ _ S hT fun y dy F1 H1 ρ1 u1 S1 r1 q1 => ?_⟩
    obtain ⟨xs1, e1, hz, q⟩ := q1
    obtain ⟨g1, g2, g3, ws, g4, g5⟩ := S1.own i a xs1 e1
    exact ⟨a, ws, y, rfl, rfl, g4, by rw [g5.length]; exact hz, r.nx F1 _ _ _ u1 (S1.mut e1 (g5.append (.one r1))) q⟩
  · exact hT.elim⟩
def pStore (i : Nat) (Ti Te : TEp) : TSp := fun P ρ => Te ρ fun y ρ1 => match ρ1[i]? with
  | some (some (.own a _)) => Ti ρ1 fun k ρ2 => ∃ xs1 n j, ρ2[i]? = some (some (.own a xs1)) ∧ k = .int n ∧ ixN xs1.length n = some j ∧ P.nx (ρ2.set i (some (.own a (xs1.set j y))))
  | _ => False
theorem pps_store (i : Nat) {x : Str} {p sp : Pos} {ix : Expr} {ti : TE} {Ti : TEp} (hi : PPE X ix ti Ti) (he : PPE X e te Te) (hN : X.N[i]? = some x := by rfl) (hv : Vis X.env.scope x := by first | exact Or.inl rfl | exact Or.inr (Or.inl rfl) | exact Or.inr (Or.inr rfl)) (hd : (x == ("__debug__" : Str)) = false := by decide)
    (hcd : (x == ("__classdict__" : Str)) = false := by decide)
    (ha : ∀ v, assign (.Subscript (.Name x p) ix sp) X.env v = (do
      let ov ← holding [v] (eval (.Name x p) X.env)
      let iv ← holding [v, ov] (eval ix X.env)
      standAt sp
      holding [v, ov, iv] (setItem ov iv v)
      release [v, ov, iv] []) := by intro _; rfl)
    (hs : swapsWithSole [.Subscript (.Name x p) ix sp] e pos.line X.env = pure false := by rfl) (hw : swappedStores [.Subscript (.Name x p) ix sp] e X.env = pure none := by rfl)
    (h1 : (assignEach [.Subscript (.Name x p) ix sp] X.env).map (·.2) = [assign (.Subscript (.Name x p) ix sp) X.env] := by rfl) :
    PPS X (.Assign [.Subscript (.Name x p) ix sp] e pos) (tAsg te (gSub (tVar i) ti rSetL)) (pStore i Ti Te) := ⟨ps_asg he.pe (pg_sub (pe_var hN hv hd hcd) hi.pe set_list ha) hs hw h1, fun G F H σ ρ P D S hT r =>
  he.snd G F H σ ρ _ _ S hT fun y dy F1 H1 ρ1 u1 S1 r1 q1 => by
    have q1' : (match ρ1[i]? with
      | some (some (.own a _)) => Ti ρ1 fun k ρ2 => ∃ xs1 n j, ρ2[i]? = some (some (.own a xs1)) ∧ k = .int n ∧ ixN xs1.length n = some j ∧ P.nx (ρ2.set i (some (.own a (xs1.set j dy))))
      | _ => False) := q1
    split at q1'
    · rename_i a xs e0
      obtain ⟨h1, h2, h3, vs, h4, h5⟩ := S1.own i a xs e0
      refine ⟨.ref a, h1, hi.snd G F1 H1 σ ρ1 _ _ S1 q1' fun w dw F2 H2 ρ2 u2 S2 r2 q2 => ?_⟩
      obtain ⟨xs1, n, j, e1, rfl, ej, q⟩ := q2
      obtain ⟨g1, g2, g3, ws, g4, g5⟩ := S2.own i a xs1 e1
      have := r2.intInv
      subst this
      exact ⟨a, ws, n, j, rfl, rfl, g4, by rw [g5.length]; exact ej, r.nx F2 _ _ _ (u1.trans u2) (S2.mut e1 (g5.set (r1.mono u2.ex) j)) q⟩
    · exact q1'.elim⟩
end
end Pl
namespace Pl
open PySem PySem.Spec PyProof.Rows L2
abbrev FA := List D → (Cell → Prop) → Prop
abbrev FB := List D → List D → (Cell → List D → Prop) → Prop
def hide (H : Hp) (a : Addr) : Hp := fun b => if b = a then none else H b
theorem hide_same (H : Hp) (a : Addr) : Same (hide H a) H := fun b o e => by
  unfold hide at e
  by_cases h : b = a
  · rw [if_pos h] at e; cases e
  · rw [if_neg h] at e; exact e
theorem hide_ne {H : Hp} {a b : Addr} (h : b ≠ a) : hide H a b = H b := by unfold hide; rw [if_neg h]
theorem hide_at {H : Hp} {a : Addr} : hide H a a = none := by unfold hide; rw [if_pos rfl]
def spA (K : PySem.W.Frag) (n : Nat) (f : FA) : Sp := fun vs H Q _ => ∃ (F : Hp) (ds : List D) (C : Cell → Prop), vs.length = n ∧ Same F H ∧ Reps K F vs ds ∧ f ds C ∧
  ∀ v c F' H', Up H F F' → SimR K H F' H' [some v] [some c] → C c → Q v H'
def spB (K : PySem.W.Frag) (n : Nat) (f : FB) : Sp := fun vs H Q _ => ∃ (F : Hp) (a : Addr) (us : List V) (xs : List D) (ws : List V) (ds : List D) (C : Cell → List D → Prop), vs = .ref a :: ws ∧ vs.length = n ∧ Same F H ∧ F a = none ∧ H a = some (.lst us) ∧ Reps K F us xs ∧ Reps K F ws ds ∧ f xs ds C ∧
  ∀ v c xs' F' H', Up (hide H a) F F' → SimR K (hide H a) F' H' [some (.ref a), some v] [some (.own a xs'), some c] → C c xs' → Q v H'
theorem get_one {α : Type} {x y : α} {i : Nat} (h : [x][i]? = some y) : i = 0 ∧ x = y := by
  cases i with
  | zero => exact ⟨rfl, Option.some.inj h⟩
  | succ i => simp at h
section
variable [TJ]
theorem Sim.only {K : PySem.W.Frag} {G F H : Hp} {σ : L2.St} {ρ : Ro} {v : V} {c : Cell} (S : Sim K G F H (σ ++ [some v]) (ρ ++ [some c])) : SimR K G F H [some v] [some c] := by
  refine ⟨S.hF, S.hG.same, rfl, fun i d h => ?_, fun i a xs h => ?_, fun i j a xs ys h1 h2 => ?_, fun i s h => ?_, fun i j s t p h1 h2 _ _ => (get_one h1).1.trans (get_one h2).1.symm, fun j a xs h ⟨i, s, e, _⟩ => ?_⟩
  · obtain ⟨rfl, e⟩ := get_one h
    cases e
    exact ⟨v, rfl, S.lastVal⟩
  · obtain ⟨rfl, e⟩ := get_one h
    cases e
    obtain ⟨rfl, h2, h3, h4, h5⟩ := S.lastOwn
    exact ⟨rfl, h2, h3, h5⟩
  · rw [(get_one h1).1, (get_one h2).1]
  · obtain ⟨rfl, e⟩ := get_one h
    cases e
    obtain ⟨rfl, h2, h3, h4⟩ := S.lastBox
    exact ⟨rfl, h2, h3⟩
  · have h1 := (get_one h).2
    have h2 := (get_one e).2
    rw [h1] at h2
    cases h2
theorem Sim.only2 {K : PySem.W.Frag} {G F H : Hp} {σ : L2.St} {ρ : Ro} {v : V} {c : Cell} {a : Addr} {xs : List D} {i : Nat} (S : Sim K G F H (σ ++ [some v]) (ρ ++ [some c])) (e : ρ[i]? = some (some (.own a xs))) : SimR K G F H [some (.ref a), some v] [some (.own a xs), some c] := by
  obtain ⟨h1, h2, h3, vs, h4, h5⟩ := S.drop.own i a xs e
  have hn : ∀ (b : Addr) (ys : List D), c = .own b ys → b ≠ a := fun b ys z w => by
    subst z w
    exact S.lastOwn.2.2.2.1.1 i xs e
  refine ⟨S.hF, S.hG.same, rfl, fun i d h => ?_, fun i b ys h => ?_, fun i j b ys zs q1 q2 => ?_, fun i s h => ?_, fun i j s t p q1 q2 _ _ => ?_, fun j b ys q ⟨k, s, e2, m⟩ => ?_⟩
  · match i, h with
    | 1, h => have e' : c = .val d := Option.some.inj (Option.some.inj h); subst e'; exact ⟨v, rfl, S.lastVal⟩
  · match i, h with
    | 0, h => cases h; exact ⟨rfl, h2, h3, vs, h4, h5⟩
    | 1, h =>
      have e' : c = .own b ys := Option.some.inj (Option.some.inj h)
      subst e'
      obtain ⟨rfl, g2, g3, g4, g5⟩ := S.lastOwn
      exact ⟨rfl, g2, g3, g5⟩
  · match i, j, q1, q2 with
    | 0, 0, _, _ => rfl
    | 1, 1, _, _ => rfl
    | 0, 1, q1, q2 => cases q1; exact absurd rfl (hn _ zs (Option.some.inj (Option.some.inj q2)))
    | 1, 0, q1, q2 => cases q2; exact absurd rfl (hn _ ys (Option.some.inj (Option.some.inj q1)))
  · match i, h with
    | 1, h =>
      have e' : c = .box s := Option.some.inj (Option.some.inj h)
      subst e'
      obtain ⟨rfl, g2, g3, g4⟩ := S.lastBox
      exact ⟨rfl, g2, g3⟩
  · match i, j, q1, q2 with
    | 1, 1, _, _ => rfl
  · match k, e2 with
    | 1, e2 =>
      have e' : c = .box s := Option.some.inj (Option.some.inj e2)
      subst e'
      obtain ⟨rfl, g2, g3, g4⟩ := S.lastBox
      match j, q with
      | 0, q => cases q; exact (g4 a m).1 _ xs e
      | 1, q => cases q
theorem Sim.afterA {K : PySem.W.Frag} {G F H F' H' : Hp} {σ : L2.St} {ρ : Ro} {v : V} {c : Cell} (S : Sim K G F H σ ρ) (u : Up H F F') (S' : SimR K H F' H' [some v] [some c]) : Sim K G F' H' (σ ++ [some v]) (ρ ++ [some c]) := by
  have base : Sim K G F' H' σ ρ := by
    refine ⟨S'.hF, S.hG.up S'.hG u.out, S.len, fun i d h => ?_, fun i a xs h => ?_, S.ne, S.bx.heap u.ex fun p m => let ⟨f, g, o, e⟩ := S.bx.free m; ⟨u.isNone f e, g, (S'.hG _ _ e).trans e.symm⟩⟩
    · obtain ⟨w, h1, h2⟩ := S.val i d h
      exact ⟨w, h1, h2.mono u.ex⟩
    · obtain ⟨h1, h2, h3, vs, h4, h5⟩ := S.own i a xs h
      exact ⟨h1, u.isNone h2 h4, h3, vs, S'.hG _ _ h4, h5.mono u.ex⟩
  cases c with
  | val d =>
    obtain ⟨w, h1, h2⟩ := S'.val 0 d rfl
    cases h1
    exact base.pushVal h2
  | own a xs =>
    obtain ⟨h1, h2, h3, vs, h4, h5⟩ := S'.own 0 a xs rfl
    cases h1
    exact base.pushOwn h4 h2 (S.hG.free h3) (S.notOwn h3) h5
  | box s =>
    obtain ⟨h1, h2, h3⟩ := S'.bx.box 0 s rfl
    cases h1
    exact base.pushBox (fun p m => ⟨(h2 p m).1, S.hG.free (h2 p m).2⟩) h3 fun p m => S.notOwn (h2 p m).2
theorem Sim.afterB {K : PySem.W.Frag} {G F H F' H' : Hp} {σ : L2.St} {ρ : Ro} {v : V} {c : Cell} {i : Nat} {a : Addr} {xs xs' : List D} (S : Sim K G F H σ ρ) (e : ρ[i]? = some (some (.own a xs))) (u : Up (hide H a) F F') (S' : SimR K (hide H a) F' H' [some (.ref a), some v] [some (.own a xs'), some c]) : Sim K G F' H' (σ ++ [some v]) (ρ.set i (some (.own a xs')) ++ [some c]) := by
  obtain ⟨h1, h2, h3, vs, h4, h5⟩ := S.own i a xs e
  have hi := lt_of_get e
  obtain ⟨_, g2, g3, ws, g4, g5⟩ := S'.own 0 a xs' rfl
  have other : ∀ (j : Nat) (b : Addr) (ys : List D), ρ[j]? = some (some (.own b ys)) → j ≠ i → b ≠ a := fun j b ys q hj z => by
    subst z; exact hj (S.ne _ _ _ _ _ q e)
  have far : ∀ (j : Nat) (x : Cell), (ρ.set i (some (.own a xs')))[j]? = some (some x) → (j = i ∧ x = .own a xs') ∨ (j ≠ i ∧ ρ[j]? = some (some x)) := fun j x q => by
    by_cases hj : i = j
    · subst hj; rw [List.getElem?_set_self hi] at q; cases q; exact .inl ⟨rfl, rfl⟩
    · rw [List.getElem?_set_ne hj] at q; exact .inr ⟨fun z => hj z.symm, q⟩
  have base : Sim K G F' H' σ (ρ.set i (some (.own a xs'))) := by
    refine ⟨S'.hF, ⟨fun b o q => ?_, TJ.step S.hG.tj (fun b o q ne => ?_) fun b o q => ?_⟩, by simpa using S.len, fun j d h => ?_, fun j b ys h => ?_, fun j k b ys zs q1 q2 => ?_, S.bx.to u.ex (fun p m => ?_) (fun j s q => ⟨(set_box (by simp) q).1, rfl⟩) fun j b ys q => (set_own q).elim (fun z => by cases z; exact .inl ⟨i, xs, e⟩) fun q => .inl ⟨j, ys, q⟩⟩
    · have n : b ≠ a := fun z => by subst z; rw [h3] at q; cases q
      exact S'.hG b o (by rw [hide_ne n]; exact S.hG b o q)
    · have n : b ≠ a := fun z => by subst z; rw [h4] at q; exact ne ((Option.some.inj q) ▸ trivial)
      exact S'.hG b o (by rw [hide_ne n]; exact q)
    · rcases u.out b o q with z | z
      · exact .inl z
      · by_cases n : b = a
        · subst n; exact .inr (.inr ⟨_, h4, trivial⟩)
        · rw [hide_ne n] at z; exact .inr (.inl z)
    · rcases far j _ h with ⟨_, z⟩ | ⟨_, h⟩
      · cases z
      · obtain ⟨w, k1, k2⟩ := S.val j d h
        exact ⟨w, k1, k2.mono u.ex⟩
    · rcases far j _ h with ⟨rfl, z⟩ | ⟨hj, h⟩
      · cases z; exact ⟨h1, g2, h3, ws, g4, g5⟩
      · obtain ⟨k1, k2, k3, us, k4, k5⟩ := S.own j b ys h
        have n := other j b ys h hj
        have k4' : hide H a b = some (.lst us) := by rw [hide_ne n]; exact k4
        exact ⟨k1, u.isNone k2 k4', k3, us, S'.hG _ _ k4', k5.mono u.ex⟩
    · rcases far j _ q1 with ⟨f1, z1⟩ | ⟨hj, p1⟩
      · rcases far k _ q2 with ⟨f2, _⟩ | ⟨hk, p2⟩
        · rw [f1, f2]
        · cases z1; exact absurd rfl (other k _ zs p2 hk)
      · rcases far k _ q2 with ⟨f2, z2⟩ | ⟨hk, p2⟩
        · cases z2; exact absurd rfl (other j _ ys p1 hj)
        · exact S.ne _ _ _ _ _ p1 p2
    · obtain ⟨f, g, o, e'⟩ := S.bx.free m
      have e2 : hide H a p = some o := by rw [hide_ne (S.bx.apart m e)]; exact e'
      exact ⟨u.isNone f e2, g, (S'.hG _ _ e2).trans e'.symm⟩
  cases c with
  | val d =>
    obtain ⟨w, k1, k2⟩ := S'.val 1 d rfl
    cases k1
    exact base.pushVal k2
  | own b ys =>
    obtain ⟨k1, k2, k3, us, k4, k5⟩ := S'.own 1 b ys rfl
    cases k1
    have n : b ≠ a := fun z => by subst z; exact absurd (S'.ne 0 1 b xs' ys rfl rfl) (by decide)
    have hb : H b = none := (hide_ne (H := H) n).symm.trans k3
    refine base.pushOwn k4 k2 (S.hG.free hb) ⟨fun j zs q => ?_, fun m => (S.notOwn hb).2 (set_inbox (by simp) m)⟩ k5
    rcases far j _ q with ⟨_, z⟩ | ⟨_, q⟩
    · cases z; exact n rfl
    · obtain ⟨_, _, _, vs', h4', _⟩ := S.own j b zs q
      rw [hb] at h4'; cases h4'
  | box s =>
    obtain ⟨k1, k2, k3⟩ := S'.bx.box 1 s rfl
    cases k1
    have hb : ∀ p ∈ s.foot, H p = none := fun p m => by
      have n : p ≠ a := fun z => by subst z; exact S'.bx.bo 0 p xs' rfl ⟨1, s, rfl, m⟩
      exact (hide_ne (H := H) n).symm.trans (k2 p m).2
    refine base.pushBox (fun p m => ⟨(k2 p m).1, S.hG.free (hb p m)⟩) k3 fun p m => ⟨fun j zs q => ?_, fun z => (S.notOwn (hb p m)).2 (set_inbox (by simp) z)⟩
    rcases far j _ q with ⟨_, z⟩ | ⟨_, q⟩
    · cases z; rw [hb _ m] at h4; cases h4
    · exact (S.notOwn (hb p m)).1 j zs q
end
section
variable [TJ] {X : Cx} {k : Nat} {f : Addr} {fd : FuncData} {ps : List Str} {x : Str} {p pos : Pos} {e : Expr} {es : List Expr} {t : TA} {T : TAp} {n : Nat}
def pCallA (n : Nat) (g : FA) (T : TAp) : TCp := fun ρ Q => T ρ fun ds ρ1 => ds.length = n ∧ g ds fun c => Q c ρ1
theorem ppc_callA {g : FA} (Fn : FnOk X.prog X.w X.K X.mg X.base CX0 k f fd ps (spA X.K n g)) (hr : Room k X.A) (hg : Gl X x) (hm : X.mg x = some (.ref f)) (hk : PySem.W.keepIn X.K (.ref f) = true) (hb : Binds X.K fd ps []) (ha : PPA X (e :: es) t T)
    (hdb : (x == ("__debug__" : Str)) = false := by decide) (he : starEach (e :: es) X.env = (false, eval e X.env) :: starEach es X.env := by rfl) (hpl : (backTo pos (starEach es X.env)).any (·.1) = false := by rfl) :
    PPC X (.Call (.Name x p) (e :: es) [] pos) (tCall (spA X.K n g) [] (fun _ _ _ => False) t) (pCallA n g T) := ⟨pe_call Fn hr hg hm hk hb .nil pass0 ha.pa hdb he hpl, fun G F H σ ρ Q R S hT k =>
  ha.snd G F H σ ρ _ _ S hT fun vs ds F1 H1 ρ1 u1 S1 r1 h1 => by
    show spA X.K n g (vs ++ []) H1 R _
    rw [List.append_nil]
    exact ⟨F1, ds, _, by rw [r1.length]; exact h1.1, S1.hF, r1, h1.2, fun v c F' H' u S' q => k v c F' H' ρ1 (u1.trans (u.less S1.hG)) (S1.afterA u S') q⟩⟩
def pCallB (i n : Nat) (g : FB) (T : TAp) : TCp := fun ρ Q => match ρ[i]? with
  | some (some (.own a _)) => T ρ fun ds ρ1 => ∃ xs1, ρ1[i]? = some (some (.own a xs1)) ∧ ds.length + 1 = n ∧ g xs1 ds fun c xs2 => Q c (ρ1.set i (some (.own a xs2)))
  | _ => False
theorem ppc_callB (i : Nat) {y : Str} {py : Pos} {g : FB} (Fn : FnOk X.prog X.w X.K X.mg X.base CX0 k f fd ps (spB X.K n g)) (hr : Room k X.A) (hg : Gl X x) (hm : X.mg x = some (.ref f)) (hk : PySem.W.keepIn X.K (.ref f) = true) (hb : Binds X.K fd ps []) (ha : PPA X es t T)
    (hN : X.N[i]? = some y := by rfl) (hv : Vis X.env.scope y := by first | exact Or.inl rfl | exact Or.inr (Or.inl rfl) | exact Or.inr (Or.inr rfl)) (hd : (y == ("__debug__" : Str)) = false := by decide) (hcd : (y == ("__classdict__" : Str)) = false := by decide)
    (hdb : (x == ("__debug__" : Str)) = false := by decide) (he : starEach (.Name y py :: es) X.env = (false, eval (.Name y py) X.env) :: starEach es X.env := by rfl) (hpl : (backTo pos (starEach es X.env)).any (·.1) = false := by rfl) :
    PPC X (.Call (.Name x p) (.Name y py :: es) [] pos) (tCall (spB X.K n g) [] (fun _ _ _ => False) (tCons (tVar i) t)) (pCallB i n g T) := ⟨pe_call Fn hr hg hm hk hb .nil pass0 (pa_cons (pe_var hN hv hd hcd) ha.pa he) hdb he hpl, fun G F H σ ρ Q R S hT k => by
  unfold pCallB at hT
  split at hT
  · rename_i a xs e0
    refine ⟨.ref a, (S.own i a xs e0).1, ha.snd G F H σ ρ _ _ S hT fun vs ds F1 H1 ρ1 u1 S1 r1 h1 => ?_⟩
    obtain ⟨xs1, e1, hn, q1⟩ := h1
    obtain ⟨h1, h2, h3, us, h4, h5⟩ := S1.own i a xs1 e1
    show spB X.K n g ((.ref a :: vs) ++ []) H1 R _
    rw [List.append_nil]
    refine ⟨F1, a, us, xs1, vs, ds, _, rfl, by rw [List.length_cons, r1.length]; exact hn, S1.hF, h2, h4, h5, r1, q1, fun v c xs' F' H' u S' q => ?_⟩
    have hGh : Same G (hide H1 a) := fun b o qq => by
      have nb : b ≠ a := fun z => by rw [z, h3] at qq; cases qq
      rw [hide_ne nb]; exact S1.hG b o qq
    exact k v c F' H' _ (u1.trans (u.less hGh)) (S1.afterB e1 u S') q
  · exact hT.elim⟩
end
section
variable {P : Program} {w : World} {K : PySem.W.Frag} {mg : Str → Option Value} {base : Heap} {x qual : Str} {st : Stmt} {f : Addr} {fd : FuncData} {N ps : List Str} {k : Nat}
def startA (N : List Str) (ds : List D) : Ro := ds.map (fun d => some (.val d)) ++ List.replicate (N.length - ds.length) none
def startB (N : List Str) (a : Addr) (xs : List D) (ds : List D) : Ro := some (.own a xs) :: (ds.map (fun d => some (.val d)) ++ List.replicate (N.length - (ds.length + 1)) none)
theorem sim_vals [TJ] {K : PySem.W.Frag} {G F H : Hp} (hF : Same F H) (hG : SameJ G F H) {vs : List V} {ds : List D} (r : Reps K F vs ds) (m : Nat) : Sim K G F H (vs.map some ++ List.replicate m none) (ds.map (fun d => some (.val d)) ++ List.replicate m none) := by
  have key : ∀ (i : Nat) (c : Cell), (ds.map (fun d => some (Cell.val d)) ++ List.replicate m none)[i]? = some (some c) → ∃ d, c = .val d ∧ ds[i]? = some d := fun i c h => by
    rcases Nat.lt_or_ge i ds.length with q | q
    · rw [List.getElem?_append_left (by simpa using q), List.getElem?_map, List.getElem?_eq_getElem q] at h
      exact ⟨ds[i], (Option.some.inj (Option.some.inj h)).symm, List.getElem?_eq_getElem q⟩
    · rw [List.getElem?_append_right (by simpa using q), List.getElem?_replicate] at h
      split at h <;> cases h
  refine ⟨hF, hG, by simp [r.length], fun i d h => ?_, fun i a xs h => ?_, fun i j a xs ys h1 h2 => ?_, .nil fun i s h => by obtain ⟨d, e, _⟩ := key i _ h; cases e⟩
  · obtain ⟨d', e, hd⟩ := key i _ h
    cases e
    obtain ⟨v, hv, rv⟩ := r.get hd
    refine ⟨v, ?_, rv⟩
    have q : i < vs.length := lt_of_get hv
    rw [List.getElem?_append_left (by simpa using q), List.getElem?_map, hv]
    rfl
  · obtain ⟨d', e, _⟩ := key i _ h
    cases e
  · obtain ⟨d', e, _⟩ := key i _ h1
    cases e
theorem Sim.cons_own [TJ] {K : PySem.W.Frag} {G F H : Hp} {σ : L2.St} {ρ : Ro} (S : Sim K G F H σ ρ) {a : Addr} {vs : List V} {xs : List D} (hH : H a = some (.lst vs)) (hF : F a = none) (hG : G a = none) (hn : NotOwn ρ a) (r : Reps K F vs xs) :
    Sim K G F H (some (.ref a) :: σ) (some (.own a xs) :: ρ) := by
  refine ⟨S.hF, S.hG, by simp [S.len], fun i d h => ?_, fun i b ys h => ?_, fun i j b ys zs h1 h2 => ?_, fun i s h => ?_, fun i j s t p h1 h2 m1 m2 => ?_, fun j b ys h ⟨k, s, e, m⟩ => ?_⟩
  · cases i with
    | zero => cases h
    | succ i => exact S.val i d h
  · cases i with
    | zero => cases h; exact ⟨rfl, hF, hG, vs, hH, r⟩
    | succ i => exact S.own i b ys h
  · cases i with
    | zero =>
      cases j with
      | zero => rfl
      | succ j => cases h1; exact absurd h2 (hn.1 j zs)
    | succ i =>
      cases j with
      | zero => cases h2; exact absurd h1 (hn.1 i ys)
      | succ j => rw [S.ne i j b ys zs h1 h2]
  · cases i with
    | zero => cases h
    | succ i => exact S.bx.box i s h
  · cases i with
    | zero => cases h1
    | succ i =>
      cases j with
      | zero => cases h2
      | succ j => rw [S.bx.bb i j s t p h1 h2 m1 m2]
  · cases k with
    | zero => cases e
    | succ k =>
      cases j with
      | zero => cases h; exact hn.2 ⟨k, s, e, m⟩
      | succ j => exact S.bx.bo j b ys h ⟨k, s, e, m⟩
theorem vals_box {ds : List D} {m i : Nat} {s : Sh} : (ds.map (fun d => some (Cell.val d)) ++ List.replicate m none)[i]? ≠ some (some (.box s)) := fun h => by
  rcases Nat.lt_or_ge i ds.length with q | q
  · rw [List.getElem?_append_left (by simpa using q), List.getElem?_map, List.getElem?_eq_getElem q] at h
    cases h
  · rw [List.getElem?_append_right (by simpa using q), List.getElem?_replicate] at h
    split at h <;> cases h
theorem notOwn_vals {ds : List D} {m : Nat} {a : Addr} : NotOwn (ds.map (fun d => some (Cell.val d)) ++ List.replicate m none) a := ⟨fun i xs h => (by
  rcases Nat.lt_or_ge i ds.length with q | q
  · rw [List.getElem?_append_left (by simpa using q), List.getElem?_map, List.getElem?_eq_getElem q] at h
    cases h
  · rw [List.getElem?_append_right (by simpa using q), List.getElem?_replicate] at h
    split at h <;> cases h), fun ⟨i, s, e, _⟩ => vals_box e⟩
theorem okA {g : FA} {T : TSp} (Fn : Fun K x qual st f fd) (S : FnScope N ps (defScope st))
    (hb : ∀ (cdv : Value) (A : Around) (outer : List Env) (s : Shared) (H : Hp) (E : XK), Room k (A.deeper (envOfC qual (defScope st) s.heap.objs.size f cdv)) → ∃ t, PPSs (cxOf CX0 P w K mg base N qual (defScope st) f cdv A outer s H E).nox (defBody st) t T)
    (hT : ∀ ds C, ds.length = ps.length → g ds C → T { nx := fun _ => C (.val .non), rt := fun c _ => C c } (startA N ds)) : FnOk P w K mg base CX0 (k + 1) f fd ps (spA K ps.length g) := by
  refine Fn.ok S (fun vs H Q E h => ?_) (fun cdv A outer s H vs Q E hr h => ?_)
  · obtain ⟨F, ds, C, hl, _⟩ := h
    exact hl
  · obtain ⟨F, ds, C, hl, hF, r, hg, hQ⟩ := h
    obtain ⟨t, ht⟩ := hb cdv A outer s H E hr
    refine ⟨t, ht.ps, ?_⟩
    have S0 : Sim K H F H (L2.start N vs) (startA N ds) := by
      unfold L2.start startA
      rw [r.length]
      exact sim_vals hF (.rfl' F H) r _
    refine ht.snd H F H _ _ _ _ S0 (hT ds C (by rw [← r.length]; exact hl) hg) ⟨fun F' H' σ' ρ' u S' q => ?_, fun F' H' σ' ρ' v c u S' q => hQ v c F' H' u S'.only q, fun _ _ _ _ _ _ q => q, fun _ _ _ _ _ _ q => q⟩
    exact hQ .non (.val .non) F' H' u ((S'.pushVal .non).only) q
theorem okB {g : FB} {T : TSp} (Fn : Fun K x qual st f fd) (S : FnScope N ps (defScope st))
    (hb : ∀ (cdv : Value) (A : Around) (outer : List Env) (s : Shared) (H : Hp) (E : XK), Room k (A.deeper (envOfC qual (defScope st) s.heap.objs.size f cdv)) → ∃ t, PPSs (cxOf CX0 P w K mg base N qual (defScope st) f cdv A outer s H E).nox (defBody st) t T)
    (hT : ∀ a xs ds C, ds.length + 1 = ps.length → g xs ds C → T { nx := fun ρ => ∃ ys, ρ[0]? = some (some (.own a ys)) ∧ C (.val .non) ys, rt := fun c ρ => ∃ ys, ρ[0]? = some (some (.own a ys)) ∧ C c ys } (startB N a xs ds)) : FnOk P w K mg base CX0 (k + 1) f fd ps (spB K ps.length g) := by
  refine Fn.ok S (fun vs H Q E h => ?_) (fun cdv A outer s H vs Q E hr h => ?_)
  · obtain ⟨F, a, us, xs, ws, ds, C, _, hl, _⟩ := h
    exact hl
  · obtain ⟨F, a, us, xs, ws, ds, C, rfl, hl, hF, hFa, hHa, r1, r2, hg, hQ⟩ := h
    obtain ⟨t, ht⟩ := hb cdv A outer s H E hr
    refine ⟨t, ht.ps, ?_⟩
    have S0 : Sim K (hide H a) F H (L2.start N (.ref a :: ws)) (startB N a xs ds) := by
      unfold L2.start startB
      rw [List.length_cons, r2.length]
      exact (sim_vals hF (.of (hide_same H a)) r2 _).cons_own hHa hFa hide_at notOwn_vals r1
    refine ht.snd (hide H a) F H _ _ _ _ S0 (hT a xs ds C (by rw [← r2.length]; exact hl) hg) ⟨fun F' H' σ' ρ' u S' q => ?_, fun F' H' σ' ρ' v c u S' q => ?_, fun _ _ _ _ _ _ q => q, fun _ _ _ _ _ _ q => q⟩
    · obtain ⟨ys, e, q⟩ := q
      exact hQ .non (.val .non) ys F' H' u ((S'.pushVal .non).only2 e) q
    · obtain ⟨ys, e, q⟩ := q
      exact hQ v c ys F' H' u (S'.only2 e) q
end
end Pl
namespace Pl
open PySem PySem.Spec PyProof.Rows L2
variable [TJ]
def liftE (K : PySem.W.Frag) (T : TEp) : TE := fun σ H R => ∃ (G F : Hp) (ρ : Ro) (Q : D → Ro → Prop), Sim K G F H σ ρ ∧ T ρ Q ∧ ∀ v d F' H' ρ', Up G F F' → Sim K G F' H' σ ρ' → Rep K F' v d → Q d ρ' → R v H'
def liftT (K : PySem.W.Frag) (T : TTp) : TT := fun σ H R => ∃ (G F : Hp) (ρ : Ro) (Q : Bool → Ro → Prop), Sim K G F H σ ρ ∧ T ρ Q ∧ ∀ b F' H' ρ', Up G F F' → Sim K G F' H' σ ρ' → Q b ρ' → R b H'
def liftG (K : PySem.W.Frag) (T : TGp) (is : List Nat) : TG := fun v σ H R => ∃ (G F : Hp) (ρ : Ro) (Q : Ro → Prop) (d : D), Sim K G F H σ ρ ∧ Rep K F v d ∧ T d ρ Q ∧ ∀ F' H' σ' ρ', Up G F F' → Sim K G F' H' σ' ρ' → (∀ j, j ∉ is → σ'[j]? = σ[j]?) → σ'.length = σ.length → Q ρ' → R σ' H'
section
variable {X : Cx}
theorem PPE.lift {e : Expr} {t : TE} {T : TEp} (h : PPE X e t T) : PPE X e (liftE X.K T) T :=
  ⟨⟨fun pins s σ H Q I ⟨G, F, ρ, Q', S, hT, k⟩ => h.pe.run pins s σ H Q I (h.snd G F H σ ρ Q' Q S hT k)⟩, fun G F H σ ρ Q R S hT k => ⟨G, F, ρ, Q, S, hT, k⟩⟩
theorem PPTs.lift {es : List Expr} {t : TT} {T : TTp} (h : PPTs X es t T) : PPTs X es (liftT X.K T) T :=
  ⟨⟨fun pins s σ H Q I ⟨G, F, ρ, Q', S, hT, k⟩ => h.pt.run pins s σ H Q I (h.snd G F H σ ρ Q' Q S hT k)⟩, fun G F H σ ρ Q R S hT k => ⟨G, F, ρ, Q, S, hT, k⟩⟩
theorem PTg.lift {tg : Expr} {g : TG} {T : TGp} {is : List Nat} (h : PTg X tg g T is) : PTg X tg (liftG X.K T is) T is :=
  ⟨⟨fun pins s σ H v u Q I r ⟨G, F, ρ, Q', d, S, rd, hT, k⟩ => h.pg.run pins s σ H v u Q I r (h.snd G F H σ ρ Q' Q v d S rd hT k)⟩, fun G F H σ ρ Q R v d S r hT k => ⟨G, F, ρ, Q, d, S, r, hT, k⟩⟩
end
section
variable {X : Cx} {elt tg iter : Expr} {ifs : List Expr} {scope : Scope} {own : List (Str × Nat)} {pos : Pos} {wi : TI} {Ti : TAp} {Gp : TGp} {is : List Nat} {Tt : TTp} {Te : TEp} {vs : List Nat}
theorem ppc_lcL (hc : X.calm = true) (hN : X.N.Nodup) (hi : PPI X tg iter wi Ti) (ok : BlkOk X.N X.env.scope scope own)
    (hg : ∀ (s : Shared) (H : Hp) (C : Addr) (cl : List (Str × Addr)) (fp : List Addr), PTg (X.blk s H scope (compEnvC scope cl C X.env) fp) tg (liftG X.K Gp is) Gp is) (ht : ∀ (s : Shared) (H : Hp) (C : Addr) (cl : List (Str × Addr)) (fp : List Addr), PPTs (X.blk s H scope (compEnvC scope cl C X.env) fp) ifs (liftT X.K Tt) Tt)
    (he : ∀ (s : Shared) (H : Hp) (C : Addr) (cl : List (Str × Addr)) (fp : List Addr), PPE (X.blk s H scope (compEnvC scope cl C X.env) fp) elt (liftE X.K Te) Te) (hs : ∀ x, foldedSetIterable iter X.env x = pure x := by intro _; rfl) (hsub : ∀ i ∈ is, i ∈ own.map (·.2) := by decide) :
    PPC X (.ListComp elt [⟨tg, iter, ifs, 0⟩] scope pos) (tLc wi (liftG X.K Gp is) (liftT X.K Tt) (liftE X.K Te) (own.map (·.2))) (pLcO Ti Gp Tt Te (own.map (·.2))) := ppc_lc hc hN hi ok hg ht he hs hsub
theorem ppe_lcL (hc : X.calm = true) (hN : X.N.Nodup) (hi : PPI X tg iter wi Ti) (ok : BlkOk X.N X.env.scope scope own)
    (hg : ∀ (s : Shared) (H : Hp) (C : Addr) (cl : List (Str × Addr)) (fp : List Addr), PTg (X.blk s H scope (compEnvC scope cl C X.env) fp) tg (liftG X.K Gp is) Gp is) (ht : ∀ (s : Shared) (H : Hp) (C : Addr) (cl : List (Str × Addr)) (fp : List Addr), PPTs (X.blk s H scope (compEnvC scope cl C X.env) fp) ifs (liftT X.K Tt) Tt)
    (he : ∀ (s : Shared) (H : Hp) (C : Addr) (cl : List (Str × Addr)) (fp : List Addr), PPE (X.blk s H scope (compEnvC scope cl C X.env) fp) elt (liftE X.K Te) Te) (hs : ∀ x, foldedSetIterable iter X.env x = pure x := by intro _; rfl) (hsub : ∀ i ∈ is, i ∈ own.map (·.2) := by decide) :
    PPE X (.ListComp elt [⟨tg, iter, ifs, 0⟩] scope pos) (tLc wi (liftG X.K Gp is) (liftT X.K Tt) (liftE X.K Te) (own.map (·.2))) (pLc Ti Gp Tt Te (own.map (·.2))) := ppe_lc hc hN hi ok hg ht he hs hsub
theorem pps_setLcL {i : Nat} {y : Str} {py spos : Pos} (hc : X.calm = true) (hN : X.N.Nodup) (hi : PPI X tg iter wi Ti) (ok : BlkOk X.N X.env.scope scope own)
    (hg : ∀ (s : Shared) (H : Hp) (C : Addr) (cl : List (Str × Addr)) (fp : List Addr), PTg (X.blk s H scope (compEnvC scope cl C X.env) fp) tg (liftG X.K Gp is) Gp is) (ht : ∀ (s : Shared) (H : Hp) (C : Addr) (cl : List (Str × Addr)) (fp : List Addr), PPTs (X.blk s H scope (compEnvC scope cl C X.env) fp) ifs (liftT X.K Tt) Tt)
    (he : ∀ (s : Shared) (H : Hp) (C : Addr) (cl : List (Str × Addr)) (fp : List Addr), PPE (X.blk s H scope (compEnvC scope cl C X.env) fp) elt (liftE X.K Te) Te)
    (hy : X.N[i]? = some y := by rfl) (hyl : X.env.scope.names.lookup y = some .local := by rfl)
    (hsw : swapsWith (.ListComp elt [⟨tg, iter, ifs, 0⟩] scope pos) (some (.Name y py)) spos.line X.env = pure true := by exact sw_true rfl rfl rfl (by decide +kernel)) (hs : ∀ x, foldedSetIterable iter X.env x = pure x := by intro _; rfl) (hsub : ∀ i ∈ is, i ∈ own.map (·.2) := by decide) :
    PPS X (.Assign [.Name y py] (.ListComp elt [⟨tg, iter, ifs, 0⟩] scope pos) spos) (tAsg (tLc wi (liftG X.K Gp is) (liftT X.K Tt) (liftE X.K Te) (own.map (·.2))) (gName i)) (pSet i (pLcO Ti Gp Tt Te (own.map (·.2)))) := pps_setLc hc hN hi ok hg ht he hy hyl hsw hs hsub
end
theorem hu64 {k : Nat} {A : Around} (hr : Room k A) : A.units + 64 < cLine := by have := hr.un; omega
end Pl
namespace Pl
open PySem PySem.Spec PyProof.Rows L2
theorem ifB {b : Bool} {A B : Prop} (h1 : b = true → A) (h2 : b = false → B) : if b = true then A else B := by
  cases b with
  | true => exact ite_ti (h1 rfl)
  | false => exact ite_fi (h2 rfl)
theorem ifT {b : Bool} {A B : Prop} (h : b = true) (h1 : A) : if b = true then A else B := by subst h; exact ite_ti h1
theorem ifF {b : Bool} {A B : Prop} (h : b = false) (h1 : B) : if b = true then A else B := by subst h; exact ite_fi h1
theorem dT {p : Prop} [Decidable p] (h : decide p = true) : p := of_decide_eq_true h
theorem sl1000 {n : Nat} (h : n ≤ 1000) : n ≤ sizeLine := Nat.le_of_lt (small1000 h)
theorem for_inv {g : TGp} {tb : TSp} {P : PEnds} (I : List D → Ro → Prop) (hs : ∀ (d : D) (r : List D) (ρ : Ro) (K : Ro → Prop), (∀ ρ', I r ρ' → K ρ') → I (d :: r) ρ → g d ρ fun ρ1 => tb { P with nx := K, ct := K, bk := P.nx } ρ1)
    (he : ∀ ρ, I [] ρ → P.nx ρ) : ∀ (ds : List D) (ρ : Ro), I ds ρ → forW g tb P ds ρ
  | [], ρ, h => he ρ h
  | d :: ds, ρ, h => hs d ds ρ _ (fun ρ' h' => for_inv I hs he ds ρ' h') h
theorem lcW_inv {vs : List Nat} {g : TGp} {tt : TTp} {te : TEp} {Q : List D → Ro → Prop} (I : List D → List D → Ro → Prop)
    (hs : ∀ (d : D) (r acc : List D) (ρ : Ro) (K : List D → Ro → Prop), (∀ acc' ρ', I r acc' ρ' → K acc' ρ') → I (d :: r) acc ρ → g d (wipeP ρ vs) fun ρ2 => tt ρ2 fun b ρ3 => if b = true then te ρ3 fun y ρ4 => acc.length < sizeLine ∧ K (acc ++ [y]) (restore ρ ρ4 vs) else K acc (restore ρ ρ3 vs))
    (he : ∀ acc ρ, I [] acc ρ → Q acc ρ) : ∀ (ds acc : List D) (ρ : Ro), I ds acc ρ → lcW vs g tt te Q ds acc ρ
  | [], acc, ρ, h => he acc ρ h
  | d :: ds, acc, ρ, h => hs d ds acc ρ (fun acc' ρ' => lcW vs g tt te Q ds acc' ρ') (fun acc' ρ' h' => lcW_inv I hs he ds acc' ρ' h') h
def ElemOk (vs : List Nat) (g : TGp) (te : TEp) (ρ : Ro) (d y : D) : Prop := ∀ K : D → Ro → Prop, (∀ ρ4, restore ρ ρ4 vs = ρ → K y ρ4) → g d (wipeP ρ vs) fun ρ2 => te ρ2 K
theorem lcW_map {vs : List Nat} {g : TGp} {te : TEp} {Q : List D → Ro → Prop} {f : D → D} {ρ : Ro} : ∀ (ds acc : List D), (∀ d ∈ ds, ElemOk vs g te ρ d (f d)) → acc.length + ds.length ≤ 1000 → Q (acc ++ ds.map f) ρ → lcW vs g pYes te Q ds acc ρ
  | [], acc, _, _, hQ => by
    have hQ : Q (acc ++ []) ρ := hQ
    rw [List.append_nil] at hQ
    exact hQ
  | d :: ds, acc, h, hl, hQ => by
    have hl' : acc.length + (ds.length + 1) ≤ 1000 := hl
    refine h d (by simp) _ fun ρ4 e => ⟨small1000 (by omega), ?_⟩
    rw [e]
    refine lcW_map ds _ (fun x hx => h x (by simp [hx])) (by rw [List.length_append]; show acc.length + 1 + ds.length ≤ 1000; omega) ?_
    rw [List.append_assoc]
    exact hQ
abbrev dI (ns : List Int) : List D := ns.map D.int
theorem ints_len (ns : List Int) : (dI ns).length = ns.length := by simp
theorem lcW_ints {vs : List Nat} {g : TGp} {te : TEp} {Q : List D → Ro → Prop} {h : Int → D} {ρ : Ro} {ns : List Int} (hs : ∀ x ∈ ns, ElemOk vs g te ρ (.int x) (h x)) (hl : ns.length ≤ 1000) (hQ : Q (ns.map h) ρ) : lcW vs g pYes te Q (dI ns) [] ρ := by
  refine lcW_map (f := fun d => match d with | .int x => h x | _ => .non) (dI ns) [] (fun d hd => ?_) (by simpa using hl) ?_
  · obtain ⟨x, hx, rfl⟩ := List.mem_map.mp hd
    exact hs x hx
  · rw [List.nil_append, List.map_map]
    exact hQ
def Sq (d : D) (ns : List Int) : Prop := d = .tup (dI ns) ∨ d = .lst (dI ns)
theorem cutD_from1 (xs : List D) : cutD xs (some 1) none = xs.drop 1 := by
  unfold cutD
  rw [show HT.sIx xs.length 0 (some 1) = min 1 xs.length from HT.sIx_nat xs.length 0 1, HT.sIx_none]
  cases xs with
  | nil => rfl
  | cons x r =>
    rw [show min 1 (x :: r).length = 1 by rw [List.length_cons]; omega]
    show (List.take ((x :: r).length - 1) r) = r
    rw [List.length_cons, Nat.add_sub_cancel]
    exact List.take_length
theorem atI_zero {α : Type} (x : α) (r : List α) : atI (x :: r) 0 = some x := atI_nat (j := 0) rfl
end Pl
namespace Pl
open PySem PySem.Spec PyProof.Rows L2
theorem fnNoneB {P : Program} {w : World} {K : PySem.W.Frag} {mg : Str → Option Value} {base : Heap} {k n : Nat} {x qual : Str} {st : Stmt} {f : Addr} {fd : FuncData} {ps : List Str} (_ : Fun K x qual st f fd) : FnOk P w K mg base CX0 k f fd ps (spB K n fun _ _ _ => False) :=
  ⟨fun _ _ _ _ ⟨_, _, _, _, _, _, _, _, _, _, _, _, _, _, h, _⟩ => h.elim, fun _ _ _ _ _ _ _ _ _ _ _ _ _ ⟨_, _, _, _, _, _, _, _, _, _, _, _, _, _, h, _⟩ => h.elim⟩
theorem fnNoneA {P : Program} {w : World} {K : PySem.W.Frag} {mg : Str → Option Value} {base : Heap} {k n : Nat} {x qual : Str} {st : Stmt} {f : Addr} {fd : FuncData} {ps : List Str} (_ : Fun K x qual st f fd) : FnOk P w K mg base CX0 k f fd ps (spA K n fun _ _ => False) :=
  ⟨fun _ _ _ _ ⟨_, _, _, _, _, _, h, _⟩ => h.elim, fun _ _ _ _ _ _ _ _ _ _ _ _ _ ⟨_, _, _, _, _, _, h, _⟩ => h.elim⟩
end Pl
namespace Pl
open PySem PySem.Spec PyProof.Rows L2
variable [TJ]
def tyN : D → String
  | .non => "NoneType"
  | .bl _ => "bool"
  | .int _ => "int"
  | .str _ => "str"
  | .lst _ => "list"
  | .tup _ => "tuple"
  | .scr _ => "list"
  | .adr _ => "list"
  | .exc _ _ => "object"
def D.isInt : D → Bool
  | .int _ => true
  | .bl _ => true
  | _ => false
def D.isBl : D → Bool
  | .bl _ => true
  | _ => false
def D.isStr : D → Bool
  | .str _ => true
  | _ => false
def D.isLst : D → Bool
  | .lst _ => true
  | .scr _ => true
  | .adr _ => true
  | _ => false
def D.isTup : D → Bool
  | .tup _ => true
  | _ => false
structure IsT (n : String) (p : D → Bool) : Prop where
  kit : ∀ d, kitB (tyN d) n = some (p d)
  boot : bootBuiltins (Str.ofString n) = some (.type n)
theorem isT_int : IsT "int" D.isInt := ⟨fun d => by cases d <;> with_unfolding_all rfl, by decide +kernel⟩
theorem isT_bool : IsT "bool" D.isBl := ⟨fun d => by cases d <;> with_unfolding_all rfl, by decide +kernel⟩
theorem isT_str : IsT "str" D.isStr := ⟨fun d => by cases d <;> with_unfolding_all rfl, by decide +kernel⟩
theorem isT_list : IsT "list" D.isLst := ⟨fun d => by cases d <;> with_unfolding_all rfl, by decide +kernel⟩
theorem isT_tuple : IsT "tuple" D.isTup := ⟨fun d => by cases d <;> with_unfolding_all rfl, by decide +kernel⟩
theorem Rep.ty {K : PySem.W.Frag} {F H : Hp} (e : Same F H) {v : V} {d : D} (r : Rep K F v d) (hn : (∀ ns, d ≠ .scr ns) ∧ (∀ a, d ≠ .adr a) ∧ ∀ c y, d ≠ .exc c y) : TyX K H v (.type (tyN d)) := by
  cases r with
  | non => exact .base .non
  | bl b => exact .base (.bl b)
  | int i => exact .base (.int i)
  | str z => exact .base (.str z)
  | lst h _ => exact .base (.lst (e _ _ h))
  | tup h _ => exact .base (.tup (e _ _ h))
  | scr _ => exact absurd rfl (hn.1 _)
  | adr _ => exact absurd rfl (hn.2.1 _)
  | exc _ _ _ _ => exact absurd rfl (hn.2.2 _ _)
def notScr (d : D) (A : Prop) : Prop := match d with
  | .scr _ => False
  | .adr _ => False
  | .exc _ _ => False
  | _ => A
theorem notScr_of {d : D} {A : Prop} (h : notScr d A) : ((∀ ns, d ≠ .scr ns) ∧ (∀ a, d ≠ .adr a) ∧ ∀ c y, d ≠ .exc c y) ∧ A := by
  cases d with
  | scr ns => exact h.elim
  | adr a => exact h.elim
  | exc _ _ => exact h.elim
  | _ => exact ⟨⟨fun _ z => (by cases z), fun _ z => (by cases z), fun _ _ z => (by cases z)⟩, h⟩
section
variable {X : Cx} {e : Expr} {te : TE} {Te : TEp} {pos : Pos}
def pIsi (p : D → Bool) (Te : TEp) : TEp := fun ρ Q => Te ρ fun d ρ1 => notScr d (Q (.bl (p d)) ρ1)
theorem ppe_isi {n : String} {p : D → Bool} {fp np : Pos} (ht : IsT n p) (hg : Gl X "isinstance") (hm : X.mg "isinstance" = none) (hgn : Gl X (Str.ofString n)) (hmn : X.mg (Str.ofString n) = none) (he : PPE X e te Te) (hnn : Str.ofString n ≠ "__name__" := by decide) (hnd : (Str.ofString n == ("__debug__" : Str)) = false := by decide)
    (hs : starEach [e, .Name (Str.ofString n) np] X.env = (false, eval e X.env) :: starEach [.Name (Str.ofString n) np] X.env := by rfl) (hs2 : starEach [.Name (Str.ofString n) np] X.env = (false, eval (.Name (Str.ofString n) np) X.env) :: starEach [] X.env := by rfl) (hpl : (backTo pos (starEach [.Name (Str.ofString n) np] X.env)).any (·.1) = false := by rfl) :
    PPE X (.Call (.Name "isinstance" fp) [e, .Name (Str.ofString n) np] [] pos) (tCB (rIsi X.K) (tCons te (tCons (tC (.ty n)) tNil))) (pIsi p Te) :=
  ⟨pe_callB call_isi hg hm (by decide +kernel) (pa_cons he.pe (pa_cons (pe_bltn hgn hmn ht.boot rfl hnn hnd) pa_nil hs2) hs) (by decide) (by decide) hs hpl, fun G F H σ ρ Q R S hT k =>
    he.snd G F H σ ρ _ _ S hT fun v d F1 H1 ρ1 u1 S1 r1 q1 => by
      obtain ⟨hn, q⟩ := notScr_of q1
      exact ⟨v, .ty n, _, _, p d, rfl, .ty n, r1.ty S1.hF hn, ht.kit d, k _ _ F1 H1 ρ1 u1 S1 (.bl _) q⟩⟩
theorem kitAny_nil {K : PySem.W.Frag} {t : Value} : PySem.W.kitAny K t [] = some false := rfl
def pIsi2 (p q : D → Bool) (Te : TEp) : TEp := fun ρ Q => Te ρ fun d ρ1 => notScr d (Q (.bl (p d || q d)) ρ1)
theorem ppe_isi2 {n m : String} {p q : D → Bool} {fp np mp tp : Pos} {kk : Nat} (ht : IsT n p) (ht2 : IsT m q) (hg : Gl X "isinstance") (hm : X.mg "isinstance" = none) (hgn : Gl X (Str.ofString n)) (hmn : X.mg (Str.ofString n) = none) (hgm : Gl X (Str.ofString m)) (hmm : X.mg (Str.ofString m) = none) (he : PPE X e te Te)
    (hnn : Str.ofString n ≠ "__name__" := by decide) (hnd : (Str.ofString n == ("__debug__" : Str)) = false := by decide) (hmn' : Str.ofString m ≠ "__name__" := by decide) (hmd : (Str.ofString m == ("__debug__" : Str)) = false := by decide)
    (hs : starEach [e, .Tuple [.Name (Str.ofString n) np, .Name (Str.ofString m) mp] kk tp] X.env = (false, eval e X.env) :: starEach [.Tuple [.Name (Str.ofString n) np, .Name (Str.ofString m) mp] kk tp] X.env := by rfl)
    (hs2 : starEach [.Tuple [.Name (Str.ofString n) np, .Name (Str.ofString m) mp] kk tp] X.env = (false, eval (.Tuple [.Name (Str.ofString n) np, .Name (Str.ofString m) mp] kk tp) X.env) :: starEach [] X.env := by rfl)
    (hs3 : starEach [.Name (Str.ofString n) np, .Name (Str.ofString m) mp] X.env = (false, eval (.Name (Str.ofString n) np) X.env) :: starEach [.Name (Str.ofString m) mp] X.env := by rfl)
    (hs4 : starEach [.Name (Str.ofString m) mp] X.env = (false, eval (.Name (Str.ofString m) mp) X.env) :: starEach [] X.env := by rfl)
    (hpl : (backTo pos (starEach [.Tuple [.Name (Str.ofString n) np, .Name (Str.ofString m) mp] kk tp] X.env)).any (·.1) = false := by rfl) :
    PPE X (.Call (.Name "isinstance" fp) [e, .Tuple [.Name (Str.ofString n) np, .Name (Str.ofString m) mp] kk tp] [] pos) (tCB (rIsiT X.K) (tCons te (tCons (tTup (tCons (tC (.ty n)) (tCons (tC (.ty m)) tNil))) tNil))) (pIsi2 p q Te) :=
  ⟨pe_callB call_isiT hg hm (by decide +kernel) (pa_cons he.pe (pa_cons (pe_tup (pa_cons (pe_bltn hgn hmn ht.boot rfl hnn hnd) (pa_cons (pe_bltn hgm hmm ht2.boot rfl hmn' hmd) pa_nil hs4) hs3)) pa_nil hs2) hs) (by decide) (by decide) hs hpl, fun G F H σ ρ Q R S hT k =>
    he.snd G F H σ ρ _ _ S hT fun v d F1 H1 ρ1 u1 S1 r1 q1 => by
      obtain ⟨hn, q'⟩ := notScr_of q1
      refine ⟨by show (2 : Nat) ≤ sizeLine; decide, fun a ha => ?_⟩
      refine ⟨v, a, [.ty n, .ty m], _, [.type n, .type m], p d || q d, rfl, upd_same, .cons (.ty n) (.cons (.ty m) .nil), r1.ty (S1.hF.trans (same_new ha)) hn, ?_, k _ _ F1 _ ρ1 u1 (S1.more ha) (.bl _) q'⟩
      refine kitAny_cons (b := p d) (ht.kit d) (fun h => kitAny_cons (b := q d) (ht2.kit d) (fun h2 => by rw [h, h2]; rfl) (fun h2 => by rw [h2]; simp)) (fun h => by rw [h]; rfl)⟩
end
def okN : Nat → D → Prop
  | _, .non => True
  | _, .bl _ => True
  | _, .int _ => True
  | _, .str z => (D.str z).sh
  | n + 1, .lst xs => xs.length ≤ 1000 ∧ ∀ x ∈ xs, okN n x
  | n + 1, .tup xs => xs.length ≤ 1000 ∧ ∀ x ∈ xs, okN n x
  | _, _ => False
def gS : Nat → FA
  | 0 => fun _ _ => False
  | n + 1 => fun ds C => ∃ d, ds = [d, d] ∧ okN n d ∧ C (.val (.bl true))
end Pl
namespace Pl
def cutFrom (s p : Int) : List Int → List Int
  | [] => []
  | h :: r => min h (p + s) :: cutFrom s (min h (p + s)) r
def cutOn (s : Int) : List Int → List Int
  | [] => []
  | x :: r => x :: cutFrom s x r
def cutBack (s : Int) : List Int → List Int
  | [] => []
  | x :: r => match cutBack s r with
    | [] => [x]
    | b :: t => min x (b + s) :: b :: t
def cutTo (s : Int) (ns : List Int) : List Int := (cutOn s (cutOn s ns).reverse).reverse
def fillTo (s : Int) (ns : List Int) : List Int := (cutTo s (ns.map (fun x => -x))).map (fun x => -x)
def UpL (s : Int) : List Int → Prop
  | x :: y :: r => y ≤ x + s ∧ UpL s (y :: r)
  | _ => True
def UpR (s : Int) : List Int → Prop
  | x :: y :: r => x ≤ y + s ∧ UpR s (y :: r)
  | _ => True
def Gentle (s : Int) (l : List Int) : Prop := UpL s l ∧ UpR s l
def Lq : List Int → List Int → Prop
  | x :: xs, y :: ys => x ≤ y ∧ Lq xs ys
  | [], [] => True
  | _, _ => False
theorem Lq.refl : ∀ l : List Int, Lq l l
  | [] => trivial
  | x :: l => ⟨Int.le_refl x, Lq.refl l⟩
theorem Lq.trans : ∀ {a b c : List Int}, Lq a b → Lq b c → Lq a c
  | [], [], [], _, _ => trivial
  | x :: a, y :: b, z :: c, h, g => ⟨Int.le_trans h.1 g.1, Lq.trans h.2 g.2⟩
  | [], [], _ :: _, _, g => g.elim
  | [], _ :: _, _, h, _ => h.elim
  | _ :: _, [], _, h, _ => h.elim
  | _ :: _, _ :: _, [], _, g => g.elim
theorem Lq.antisymm : ∀ {a b : List Int}, Lq a b → Lq b a → a = b
  | [], [], _, _ => rfl
  | x :: a, y :: b, h, g => by rw [Int.le_antisymm h.1 g.1, Lq.antisymm h.2 g.2]
  | [], _ :: _, h, _ => h.elim
  | _ :: _, [], h, _ => h.elim
theorem Lq.length : ∀ {a b : List Int}, Lq a b → a.length = b.length
  | [], [], _ => rfl
  | _ :: a, _ :: b, h => by simp [Lq.length h.2]
  | [], _ :: _, h => h.elim
  | _ :: _, [], h => h.elim
theorem Lq.neg : ∀ {a b : List Int}, Lq a b → Lq (b.map (fun x => -x)) (a.map (fun x => -x))
  | [], [], _ => trivial
  | x :: a, y :: b, h => ⟨by show -y ≤ -x; have := h.1; omega, Lq.neg h.2⟩
  | [], _ :: _, h => h.elim
  | _ :: _, [], h => h.elim
theorem neg_neg_map (l : List Int) : (l.map (fun x => -x)).map (fun x => -x) = l := by
  rw [List.map_map]
  have : ((fun x : Int => -x) ∘ fun x => -x) = id := by funext x; simp
  rw [this, List.map_id]
theorem upL_neg {s : Int} : ∀ {l : List Int}, UpL s l → UpR s (l.map (fun x => -x))
  | [], _ => trivial
  | [_], _ => trivial
  | x :: y :: r, h => ⟨by show -x ≤ -y + s; have := h.1; omega, upL_neg (l := y :: r) h.2⟩
theorem upR_neg {s : Int} : ∀ {l : List Int}, UpR s l → UpL s (l.map (fun x => -x))
  | [], _ => trivial
  | [_], _ => trivial
  | x :: y :: r, h => ⟨by show -y ≤ -x + s; have := h.1; omega, upR_neg (l := y :: r) h.2⟩
theorem Gentle.neg {s : Int} {l : List Int} (h : Gentle s l) : Gentle s (l.map (fun x => -x)) := ⟨upR_neg h.2, upL_neg h.1⟩
theorem cutFrom_len (s : Int) : ∀ (p : Int) (l : List Int), (cutFrom s p l).length = l.length
  | _, [] => rfl
  | p, h :: r => by simp [cutFrom, cutFrom_len s _ r]
theorem cutOn_len (s : Int) : ∀ l : List Int, (cutOn s l).length = l.length
  | [] => rfl
  | x :: r => by simp [cutOn, cutFrom_len]
theorem cutTo_len (s : Int) (l : List Int) : (cutTo s l).length = l.length := by
  unfold cutTo
  rw [List.length_reverse, cutOn_len, List.length_reverse, cutOn_len]
theorem fillTo_len (s : Int) (l : List Int) : (fillTo s l).length = l.length := by
  unfold fillTo
  rw [List.length_map, cutTo_len, List.length_map]
theorem cutFrom_snoc (s : Int) (x : Int) : ∀ (p : Int) (l : List Int), cutFrom s p (l ++ [x]) = cutFrom s p l ++ [min x ((cutFrom s p l).getLastD p + s)]
  | p, [] => rfl
  | p, h :: r => by
    show min h (p + s) :: cutFrom s (min h (p + s)) (r ++ [x]) = min h (p + s) :: (cutFrom s (min h (p + s)) r ++ [min x ((min h (p + s) :: cutFrom s (min h (p + s)) r).getLastD p + s)])
    rw [cutFrom_snoc s x _ r, List.getLastD_cons]
theorem cutOn_snoc (s x y : Int) (l : List Int) : cutOn s ((y :: l) ++ [x]) = cutOn s (y :: l) ++ [min x ((cutOn s (y :: l)).getLastD 0 + s)] := by
  show y :: cutFrom s y (l ++ [x]) = y :: (cutFrom s y l ++ [min x ((y :: cutFrom s y l).getLastD 0 + s)])
  rw [cutFrom_snoc, List.getLastD_cons]
theorem cutBack_ne {s : Int} {x : Int} {r : List Int} : cutBack s (x :: r) ≠ [] := by
  unfold cutBack
  split <;> simp
theorem getLastD_rev {α : Type} (d b : α) (t : List α) : ((b :: t).reverse).getLastD d = b := by
  rw [List.reverse_cons, List.getLastD_concat]
theorem cutOn_rev (s : Int) : ∀ l : List Int, cutOn s l.reverse = (cutBack s l).reverse
  | [] => rfl
  | [x] => rfl
  | x :: y :: r => by
    have ih := cutOn_rev s (y :: r)
    have e : (x :: y :: r).reverse = (y :: r).reverse ++ [x] := List.reverse_cons
    rw [e]
    cases h : (y :: r).reverse with
    | nil => simp at h
    | cons z t =>
      rw [cutOn_snoc, ← h, ih]
      show _ = (match cutBack s (y :: r) with
        | [] => [x]
        | b :: t => min x (b + s) :: b :: t).reverse
      cases hb : cutBack s (y :: r) with
      | nil => exact absurd hb cutBack_ne
      | cons b t' =>
        rw [getLastD_rev]
        show (b :: t').reverse ++ [min x (b + s)] = (min x (b + s) :: b :: t').reverse
        rw [List.reverse_cons (a := min x (b + s))]
theorem cutTo_eq (s : Int) (l : List Int) : cutTo s l = cutBack s (cutOn s l) := by
  unfold cutTo
  rw [cutOn_rev, List.reverse_reverse]
theorem cutFrom_le (s : Int) : ∀ (p : Int) (l : List Int), Lq (cutFrom s p l) l
  | _, [] => trivial
  | p, h :: r => ⟨Int.min_le_left _ _, cutFrom_le s _ r⟩
theorem cutOn_le (s : Int) : ∀ l : List Int, Lq (cutOn s l) l
  | [] => trivial
  | x :: r => ⟨Int.le_refl x, cutFrom_le s x r⟩
theorem cutFrom_upL (s : Int) : ∀ (p : Int) (l : List Int), UpL s (p :: cutFrom s p l)
  | _, [] => trivial
  | p, h :: r => ⟨Int.min_le_right _ _, cutFrom_upL s _ r⟩
theorem cutOn_upL (s : Int) : ∀ l : List Int, UpL s (cutOn s l)
  | [] => trivial
  | x :: r => cutFrom_upL s x r
theorem cutBack_le (s : Int) : ∀ l : List Int, Lq (cutBack s l) l
  | [] => trivial
  | x :: r => by
    have ih := cutBack_le s r
    unfold cutBack
    cases hb : cutBack s r with
    | nil => rw [hb] at ih; cases r with
      | nil => exact ⟨Int.le_refl x, trivial⟩
      | cons _ _ => exact ih.elim
    | cons b t => rw [hb] at ih; exact ⟨Int.min_le_left _ _, ih⟩
theorem cutBack_upR (s : Int) : ∀ l : List Int, UpR s (cutBack s l)
  | [] => trivial
  | x :: r => by
    have ih := cutBack_upR s r
    unfold cutBack
    cases hb : cutBack s r with
    | nil => exact trivial
    | cons b t => rw [hb] at ih; exact ⟨Int.min_le_right _ _, ih⟩
theorem cutBack_upL {s : Int} (h0 : 0 ≤ s) : ∀ l : List Int, UpL s l → UpL s (cutBack s l)
  | [], _ => trivial
  | [x], _ => trivial
  | x :: y :: r, h => by
    have ih := cutBack_upL h0 (y :: r) h.2
    have le := cutBack_le s (y :: r)
    show UpL s (match cutBack s (y :: r) with | [] => [x] | b :: t => min x (b + s) :: b :: t)
    cases hb : cutBack s (y :: r) with
    | nil => exact trivial
    | cons b t =>
      rw [hb] at ih le
      have h1 := h.1
      have h2 : b ≤ y := le.1
      refine ⟨?_, ih⟩
      omega
theorem cutFrom_max {s : Int} : ∀ {p q : Int} {b l : List Int}, q ≤ p → UpL s (q :: b) → Lq b l → Lq b (cutFrom s p l)
  | _, _, [], [], _, _, _ => trivial
  | p, q, x :: b, h :: r, hq, hu, hl => by
    have h1 := hu.1
    have h2 := hl.1
    have h3 : x ≤ min h (p + s) := by omega
    exact ⟨h3, cutFrom_max h3 hu.2 hl.2⟩
  | _, _, [], _ :: _, _, _, h => h.elim
  | _, _, _ :: _, [], _, _, h => h.elim
theorem cutOn_max {s : Int} : ∀ {b l : List Int}, UpL s b → Lq b l → Lq b (cutOn s l)
  | [], [], _, _ => trivial
  | x :: b, y :: l, hu, hl => ⟨hl.1, cutFrom_max hl.1 hu hl.2⟩
  | [], _ :: _, _, h => h.elim
  | _ :: _, [], _, h => h.elim
theorem cutBack_max {s : Int} : ∀ {b l : List Int}, UpR s b → Lq b l → Lq b (cutBack s l)
  | [], [], _, _ => trivial
  | [x], [y], _, hl => hl
  | x :: z :: b, y :: w :: l, hu, hl => by
    have ih := cutBack_max (b := z :: b) (l := w :: l) hu.2 hl.2
    show Lq (x :: z :: b) (match cutBack s (w :: l) with | [] => [y] | b :: t => min y (b + s) :: b :: t)
    cases hb : cutBack s (w :: l) with
    | nil => exact absurd hb cutBack_ne
    | cons c t =>
      rw [hb] at ih
      have h1 := hu.1
      have h2 := hl.1
      have h3 := ih.1
      exact ⟨by omega, ih⟩
  | [_], _ :: _ :: _, _, h => h.2.elim
  | _ :: _ :: _, [_], _, h => h.2.elim
  | [], _ :: _, _, h => h.elim
  | _ :: _, [], _, h => h.elim
theorem cutTo_gentle {s : Int} (h0 : 0 ≤ s) (l : List Int) : Gentle s (cutTo s l) := by
  rw [cutTo_eq]
  exact ⟨cutBack_upL h0 _ (cutOn_upL s l), cutBack_upR s _⟩
theorem cutTo_le (s : Int) (l : List Int) : Lq (cutTo s l) l := by
  rw [cutTo_eq]
  exact (cutBack_le s _).trans (cutOn_le s l)
theorem cutTo_max {s : Int} {b l : List Int} (hb : Gentle s b) (h : Lq b l) : Lq b (cutTo s l) := by
  rw [cutTo_eq]
  exact cutBack_max hb.2 (cutOn_max hb.1 h)
theorem fillTo_gentle {s : Int} (h0 : 0 ≤ s) (l : List Int) : Gentle s (fillTo s l) := (cutTo_gentle h0 _).neg
theorem fillTo_ge (s : Int) (l : List Int) : Lq l (fillTo s l) := by
  have := (cutTo_le s (l.map (fun x => -x))).neg
  rw [neg_neg_map] at this
  exact this
theorem fillTo_min {s : Int} {b l : List Int} (hb : Gentle s b) (h : Lq l b) : Lq (fillTo s l) b := by
  have := (cutTo_max hb.neg h.neg).neg
  rw [neg_neg_map] at this
  exact this
theorem cutTo_idle {s : Int} (h0 : 0 ≤ s) {l : List Int} : cutTo s l = l ↔ Gentle s l :=
  ⟨fun h => h ▸ cutTo_gentle h0 l, fun h => (cutTo_le s l).antisymm (cutTo_max h (Lq.refl l))⟩
theorem fillTo_idle {s : Int} (h0 : 0 ≤ s) {l : List Int} : fillTo s l = l ↔ Gentle s l :=
  ⟨fun h => h ▸ fillTo_gentle h0 l, fun h => (fillTo_min h (Lq.refl l)).antisymm (fillTo_ge s l)⟩
theorem foldl_min_ge {m a : Int} : ∀ {l : List Int}, m ≤ l.foldl min a ↔ m ≤ a ∧ ∀ x ∈ l, m ≤ x
  | [] => by simp
  | y :: l => by
    rw [List.foldl_cons, foldl_min_ge (l := l)]
    constructor
    · intro ⟨h, g⟩
      refine ⟨by omega, fun x hx => ?_⟩
      rcases List.mem_cons.mp hx with e | hx
      · omega
      · exact g x hx
    · intro ⟨h, g⟩
      have := g y (by simp)
      exact ⟨by omega, fun x hx => g x (by simp [hx])⟩
theorem foldl_min_mem {a : Int} : ∀ {l : List Int}, l.foldl min a ∈ a :: l
  | [] => by simp
  | y :: l => by
    rw [List.foldl_cons]
    rcases List.mem_cons.mp (foldl_min_mem (a := min a y) (l := l)) with h | h
    · rw [h]
      rcases (show min a y = a ∨ min a y = y by omega) with e | e
      · rw [e]; simp
      · rw [e]; simp
    · simp [h]
end Pl
namespace Pl
def aI (i : Int) : Int := if i < 0 then -i else i
def minOf : List Int → Int
  | [] => 0
  | x :: r => r.foldl min x
def maxOf : List Int → Int
  | [] => 0
  | x :: r => r.foldl max x
theorem minOf_le {l : List Int} {x : Int} (h : x ∈ l) : minOf l ≤ x := by
  cases l with
  | nil => simp at h
  | cons y r =>
    have := (foldl_min_ge (m := r.foldl min y) (a := y) (l := r)).mp (Int.le_refl _)
    rcases List.mem_cons.mp h with e | h
    · rw [e]; exact this.1
    · exact this.2 x h
theorem minOf_mem {l : List Int} (h : l ≠ []) : minOf l ∈ l := by
  cases l with
  | nil => exact absurd rfl h
  | cons y r => exact foldl_min_mem
theorem le_minOf {l : List Int} {m : Int} (hl : l ≠ []) (h : ∀ x ∈ l, m ≤ x) : m ≤ minOf l := h _ (minOf_mem hl)
theorem foldl_neg : ∀ (l : List Int) (a : Int), (l.map (fun x => -x)).foldl max (-a) = -(l.foldl min a)
  | [], _ => rfl
  | x :: l, a => by
    rw [List.map_cons, List.foldl_cons, List.foldl_cons, show max (-a) (-x) = -(min a x) by omega, foldl_neg l]
theorem maxOf_neg (l : List Int) : maxOf (l.map (fun x => -x)) = -(minOf l) := by
  cases l with
  | nil => rfl
  | cons x r => exact foldl_neg r x
def reach (s : Int) (l : List Int) (i : Int) : List Int := (List.range l.length).map fun (j : Nat) => l.getD j 0 + s * aI (i - (j : Int))
def reachF (s : Int) (l : List Int) (i : Int) : List Int := (List.range l.length).map fun (j : Nat) => l.getD j 0 - s * aI (i - (j : Int))
def cutAll (s : Int) (l : List Int) : List Int := (List.range l.length).map fun (i : Nat) => minOf (reach s l i)
def fillAll (s : Int) (l : List Int) : List Int := (List.range l.length).map fun (i : Nat) => maxOf (reachF s l i)
theorem lq_of_get : ∀ {a b : List Int}, a.length = b.length → (∀ i, i < a.length → a.getD i 0 ≤ b.getD i 0) → Lq a b
  | [], [], _, _ => trivial
  | x :: a, y :: b, hl, h => ⟨by have := h 0 (by simp); simpa using this, lq_of_get (by simpa using hl) fun i hi => by
      have := h (i + 1) (by simp; omega)
      simpa using this⟩
  | [], _ :: _, h, _ => by simp at h
  | _ :: _, [], h, _ => by simp at h
theorem lq_get : ∀ {a b : List Int}, Lq a b → ∀ i, a.getD i 0 ≤ b.getD i 0
  | [], [], _, _ => Int.le_refl _
  | x :: a, y :: b, h, 0 => by simpa using h.1
  | x :: a, y :: b, h, i + 1 => by simpa using lq_get h.2 i
  | [], _ :: _, h, _ => h.elim
  | _ :: _, [], h, _ => h.elim
theorem upL_of {s : Int} : ∀ {l : List Int}, (∀ i, i + 1 < l.length → l.getD (i + 1) 0 ≤ l.getD i 0 + s) → UpL s l
  | [], _ => trivial
  | [_], _ => trivial
  | x :: y :: r, h => ⟨by have := h 0 (by simp); simpa using this, upL_of fun i hi => by
      have := h (i + 1) (by simp at hi ⊢; omega)
      simpa using this⟩
theorem upR_of {s : Int} : ∀ {l : List Int}, (∀ i, i + 1 < l.length → l.getD i 0 ≤ l.getD (i + 1) 0 + s) → UpR s l
  | [], _ => trivial
  | [_], _ => trivial
  | x :: y :: r, h => ⟨by have := h 0 (by simp); simpa using this, upR_of fun i hi => by
      have := h (i + 1) (by simp at hi ⊢; omega)
      simpa using this⟩
theorem upL_get {s : Int} : ∀ {l : List Int}, UpL s l → ∀ i, i + 1 < l.length → l.getD (i + 1) 0 ≤ l.getD i 0 + s
  | [], _, _, h => by simp at h
  | [_], _, _, h => by simp at h
  | x :: y :: r, h, 0, _ => by simpa using h.1
  | x :: y :: r, h, i + 1, hi => by
    have := upL_get h.2 i (by simp at hi ⊢; omega)
    simpa using this
theorem upR_get {s : Int} : ∀ {l : List Int}, UpR s l → ∀ i, i + 1 < l.length → l.getD i 0 ≤ l.getD (i + 1) 0 + s
  | [], _, _, h => by simp at h
  | [_], _, _, h => by simp at h
  | x :: y :: r, h, 0, _ => by simpa using h.1
  | x :: y :: r, h, i + 1, hi => by
    have := upR_get h.2 i (by simp at hi ⊢; omega)
    simpa using this
theorem upL_far {s : Int} {l : List Int} (h : UpL s l) (i : Nat) : ∀ d, i + d < l.length → l.getD (i + d) 0 ≤ l.getD i 0 + s * d
  | 0, _ => by simp
  | d + 1, hd => by
    have h1 := upL_far h i d (by omega)
    have h2 := upL_get h (i + d) (by omega)
    have e : s * ((d + 1 : Nat) : Int) = s * d + s := by rw [show ((d + 1 : Nat) : Int) = (d : Int) + 1 by omega, Int.mul_add, Int.mul_one]
    rw [show i + (d + 1) = i + d + 1 by omega]
    omega
theorem upR_far {s : Int} {l : List Int} (h : UpR s l) (i : Nat) : ∀ d, i + d < l.length → l.getD i 0 ≤ l.getD (i + d) 0 + s * d
  | 0, _ => by simp
  | d + 1, hd => by
    have h1 := upR_far h i d (by omega)
    have h2 := upR_get h (i + d) (by omega)
    have e : s * ((d + 1 : Nat) : Int) = s * d + s := by rw [show ((d + 1 : Nat) : Int) = (d : Int) + 1 by omega, Int.mul_add, Int.mul_one]
    rw [show i + (d + 1) = i + d + 1 by omega]
    omega
theorem gentle_far {s : Int} {l : List Int} (h : Gentle s l) (i j : Nat) (hi : i < l.length) (hj : j < l.length) : l.getD i 0 ≤ l.getD j 0 + s * aI ((i : Int) - j) := by
  rcases Nat.le_total i j with g | g
  · have := upR_far h.2 i (j - i) (by omega)
    rw [show i + (j - i) = j by omega] at this
    rw [show aI ((i : Int) - j) = ((j - i : Nat) : Int) by unfold aI; split <;> omega]
    exact this
  · have := upL_far h.1 j (i - j) (by omega)
    rw [show j + (i - j) = i by omega] at this
    rw [show aI ((i : Int) - j) = ((i - j : Nat) : Int) by unfold aI; split <;> omega]
    exact this
theorem cutAll_len (s : Int) (l : List Int) : (cutAll s l).length = l.length := by simp [cutAll]
theorem fillAll_len (s : Int) (l : List Int) : (fillAll s l).length = l.length := by simp [fillAll]
theorem reach_ne {s i : Int} {l : List Int} (h : l ≠ []) : reach s l i ≠ [] := by
  cases l with
  | nil => exact absurd rfl h
  | cons x r => simp [reach]
theorem cutAll_get {s : Int} {l : List Int} {i : Nat} (hi : i < l.length) : (cutAll s l).getD i 0 = minOf (reach s l i) := by
  unfold cutAll
  rw [List.getD_eq_getElem?_getD, List.getElem?_map, List.getElem?_range hi]; rfl
theorem mem_reach {s i x : Int} {l : List Int} : x ∈ reach s l i ↔ ∃ j, j < l.length ∧ x = l.getD j 0 + s * aI (i - (j : Int)) := by
  unfold reach
  rw [List.mem_map]
  constructor
  · rintro ⟨j, hj, e⟩; exact ⟨j, List.mem_range.mp hj, e.symm⟩
  · rintro ⟨j, hj, e⟩; exact ⟨j, List.mem_range.mpr hj, e.symm⟩
theorem cutAll_le (s : Int) (l : List Int) : Lq (cutAll s l) l := by
  refine lq_of_get (cutAll_len s l) fun i hi => ?_
  rw [cutAll_len] at hi
  rw [cutAll_get hi]
  have := minOf_le (mem_reach (s := s) (i := (i : Int)) (l := l) |>.mpr ⟨i, hi, rfl⟩)
  rw [show aI ((i : Int) - i) = 0 by unfold aI; split <;> omega, Int.mul_zero] at this
  omega
theorem mul_step {s a b : Int} (h0 : 0 ≤ s) (h : a ≤ b + 1) : s * a ≤ s * b + s := by
  have := Int.mul_le_mul_of_nonneg_left h h0
  rw [Int.mul_add, Int.mul_one] at this
  exact this
theorem aI_step {a b : Int} (h : a - b ≤ 1) (g : b - a ≤ 1) : aI a ≤ aI b + 1 := by
  unfold aI; split <;> split <;> omega
theorem cutAll_near {s : Int} (h0 : 0 ≤ s) {l : List Int} (hne : l ≠ []) (i k : Int) (h : i - k ≤ 1) (g : k - i ≤ 1) : minOf (reach s l i) ≤ minOf (reach s l k) + s := by
  obtain ⟨j, hj, e⟩ := mem_reach.mp (minOf_mem (reach_ne (s := s) (i := k) hne))
  have h1 := minOf_le (mem_reach (s := s) (i := i) (l := l) |>.mpr ⟨j, hj, rfl⟩)
  have h2 : s * aI (i - j) ≤ s * aI (k - j) + s := mul_step h0 (aI_step (by omega) (by omega))
  omega
theorem cutAll_gentle {s : Int} (h0 : 0 ≤ s) (l : List Int) : Gentle s (cutAll s l) := by
  refine ⟨upL_of fun i hi => ?_, upR_of fun i hi => ?_⟩ <;> rw [cutAll_len] at hi
  · rw [cutAll_get hi, cutAll_get (by omega)]
    exact cutAll_near h0 (by intro e; subst e; simp at hi) _ _ (by omega) (by omega)
  · rw [cutAll_get hi, cutAll_get (by omega)]
    exact cutAll_near h0 (by intro e; subst e; simp at hi) _ _ (by omega) (by omega)
theorem cutAll_max {s : Int} {b l : List Int} (hb : Gentle s b) (h : Lq b l) : Lq b (cutAll s l) := by
  have hl := h.length
  refine lq_of_get (by rw [cutAll_len]; exact hl) fun i hi => ?_
  rw [cutAll_get (by omega)]
  refine le_minOf (reach_ne (by intro e; subst e; simp at hl; simp [hl] at hi)) fun x hx => ?_
  obtain ⟨j, hj, e⟩ := mem_reach.mp hx
  have h1 := gentle_far hb i j hi (by omega)
  have h2 := lq_get h j
  omega
theorem cutTo_all {s : Int} (h0 : 0 ≤ s) (l : List Int) : cutTo s l = cutAll s l :=
  (cutAll_max (cutTo_gentle h0 l) (cutTo_le s l)).antisymm (cutTo_max (cutAll_gentle h0 l) (cutAll_le s l))
theorem reachF_neg (s : Int) (l : List Int) (i : Int) : reachF s l i = (reach s (l.map (fun x => -x)) i).map (fun x => -x) := by
  unfold reachF reach
  rw [List.map_map, List.length_map]
  apply List.map_congr_left
  intro j hj
  have hj := List.mem_range.mp hj
  show l.getD j 0 - s * aI (i - j) = -((l.map (fun x => -x)).getD j 0 + s * aI (i - j))
  rw [List.getD_eq_getElem?_getD, List.getD_eq_getElem?_getD, List.getElem?_map, List.getElem?_eq_getElem hj]
  show l[j] - s * aI (i - j) = -(-l[j] + s * aI (i - j))
  omega
theorem fillTo_all {s : Int} (h0 : 0 ≤ s) (l : List Int) : fillTo s l = fillAll s l := by
  unfold fillTo fillAll
  rw [cutTo_all h0]
  unfold cutAll
  rw [List.map_map, List.length_map]
  apply List.map_congr_left
  intro i _
  show -(minOf (reach s (l.map (fun x => -x)) i)) = maxOf (reachF s l i)
  rw [reachF_neg, maxOf_neg]
end Pl
namespace Pl
theorem UpL.mono {s t : Int} (h : s ≤ t) : ∀ {l : List Int}, UpL s l → UpL t l
  | [], _ => trivial
  | [_], _ => trivial
  | x :: y :: r, g => ⟨by have := g.1; omega, UpL.mono h g.2⟩
theorem UpR.mono {s t : Int} (h : s ≤ t) : ∀ {l : List Int}, UpR s l → UpR t l
  | [], _ => trivial
  | [_], _ => trivial
  | x :: y :: r, g => ⟨by have := g.1; omega, UpR.mono h g.2⟩
theorem Gentle.mono {s t : Int} (h : s ≤ t) {l : List Int} (g : Gentle s l) : Gentle t l := ⟨g.1.mono h, g.2.mono h⟩
theorem upL_append {s x y : Int} : ∀ {a b : List Int}, UpL s (a ++ [x]) → UpL s (y :: b) → y ≤ x + s → UpL s (a ++ x :: y :: b)
  | [], _, _, h2, h => ⟨h, h2⟩
  | [a], _, h1, h2, h => ⟨h1.1, h, h2⟩
  | a :: c :: l, _, h1, h2, h => ⟨h1.1, upL_append (a := c :: l) h1.2 h2 h⟩
theorem upR_append {s x y : Int} : ∀ {a b : List Int}, UpR s (a ++ [x]) → UpR s (y :: b) → x ≤ y + s → UpR s (a ++ x :: y :: b)
  | [], _, _, h2, h => ⟨h, h2⟩
  | [a], _, h1, h2, h => ⟨h1.1, h, h2⟩
  | a :: c :: l, _, h1, h2, h => ⟨h1.1, upR_append (a := c :: l) h1.2 h2 h⟩
theorem upL_reverse {s : Int} : ∀ {l : List Int}, UpL s l → UpR s l.reverse
  | [], _ => trivial
  | [_], _ => trivial
  | x :: y :: r, h => by
    have ih := upL_reverse (l := y :: r) h.2
    rw [List.reverse_cons] at ih ⊢
    rw [List.reverse_cons, List.append_assoc]
    exact upR_append ih trivial h.1
theorem upR_reverse {s : Int} : ∀ {l : List Int}, UpR s l → UpL s l.reverse
  | [], _ => trivial
  | [_], _ => trivial
  | x :: y :: r, h => by
    have ih := upR_reverse (l := y :: r) h.2
    rw [List.reverse_cons] at ih ⊢
    rw [List.reverse_cons, List.append_assoc]
    exact upL_append ih trivial h.1
theorem Gentle.reverse {s : Int} {l : List Int} (h : Gentle s l) : Gentle s l.reverse := ⟨upR_reverse h.2, upL_reverse h.1⟩
end Pl
namespace Pl
open PySem PySem.Spec PyProof.Rows L2
abbrev N_mirrored : List Str := [("dune" : Str)]
def T_mirrored : TSp :=
  (pRet (pVal (pCB fTup (pCons (pUn fRev (pVar 0)) pNil))))
abbrev N_upside : List Str := [("dune" : Str), ("height" : Str)]
def T_upside : TSp :=
  (pRet (pVal (pCB fTup (pCons (pLc (jSeq (pVar 0)) (hName 1) pYes (pUn fNeg (pVar 1)) [1]) pNil))))
abbrev N_blown : List Str := [("dune" : Str), ("wind" : Str), ("word" : Str), ("slope" : Str)]
def T_blown (g_upside : FA) (g_cut_to : FA) : TSp :=
  (pSeq (pAsg (pVar 1) (hTup 2 (hCons (hName 2) (hCons (hName 3) hNil))))
    (pSeq (pIfS (pTest (pOp fEq (pVar 2) (pC (.str "cut"))))
    (pRet (pCallA 2 g_cut_to (pCons (pVar 0) (pCons (pVar 3) pNil))))
    pNext)
    (pRet (pCallA 1 g_upside (pCons (pFrz (pCallA 2 g_cut_to (pCons (pFrz (pCallA 1 g_upside (pCons (pVar 0) pNil))) (pCons (pVar 3) pNil)))) pNil)))))
abbrev N_cut_to : List Str := [("dune" : Str), ("slope" : Str), ("onward" : Str)]
def T_cut_to (g_mirrored : FA) (g_cut_onward : FA) : TSp :=
  (pSeq (pSet 2 (pCallA 2 g_cut_onward (pCons (pVar 0) (pCons (pVar 1) pNil))))
    (pRet (pCallA 1 g_mirrored (pCons (pFrz (pCallA 2 g_cut_onward (pCons (pFrz (pCallA 1 g_mirrored (pCons (pVar 2) pNil))) (pCons (pVar 1) pNil)))) pNil))))
abbrev N_cut_onward : List Str := [("dune" : Str), ("slope" : Str), ("heights" : Str), ("height" : Str)]
def T_cut_onward : TSp :=
  (pSeq (pSet 2 (pLstO (pCons (pIxO 0 (pC (.int 0))) pNil)))
    (pSeq (pFor (jSeq (pSl (pVar 0) (pPart (pC (.int 1))) pNoPart)) (hName 3)
    (pAppend 2 (pCB fMin2 (pCons (pVar 3) (pCons (pOp fAdd (pIxO 2 (pUn fNeg (pC (.int 1)))) (pVar 1)) pNil)))))
    (pRet (pMove 2))))
abbrev N__law_cell_at : List Str := [("_law_script" : Str), ("_law_k" : Str)]
def T__law_cell_at : TSp :=
  (pSeq (pIfS (pTest (pOp fLt (pVar 1) (pLenO 0)))
    (pRet (pVal (pIxO 0 (pVar 1))))
    pNext)
    (pRet (pVal (pC (.int 0)))))
abbrev N__law_box : List Str := [("_law_script" : Str), ("_law_k" : Str), ("_law_cell" : Str)]
def T__law_box (g__law_cell_at : FA) : TSp :=
  (pSeq (pSet 2 (pCallA 2 g__law_cell_at (pCons (pVar 0) (pCons (pVar 1) pNil))))
    (pRet (pLstO (pCons (pOp fMulI (pCB fAbs (pCons (pVar 2) pNil)) (pCB fInt1 (pCons (pOp fGe (pCB fAbs (pCons (pVar 2) pNil)) (pC (.int 1000000000000000000))) pNil))) (pCons (pOp fAdd (pOp fAdd (pOp fMod (pVar 2) (pC (.int 2305843009213693951))) (pOp fMulI (pC (.int 39373)) (pVar 1))) (pC (.int 17))) (pCons (pC (.int 0)) pNil))))))
abbrev N__law_take : List Str := [("_law_box_here" : Str), ("_law_size" : Str), ("_law_told" : Str), ("_law_once" : Str), ("_law_twice" : Str)]
def T__law_take (g__law_take : FB) : TSp :=
  (pSeq (pIfS (pTest (pOp fGt (pIxO 0 (pC (.int 0))) (pC (.int 0))))
    (pSeq (pSet 2 (pVal (pOp fMod (pIxO 0 (pC (.int 0))) (pVar 1))))
    (pSeq (pStore 0 (pC (.int 0)) (pOp fDiv (pIxO 0 (pC (.int 0))) (pVar 1)))
    (pRet (pMove 2))))
    pNext)
    (pSeq (pIfS (pTest (pOp fGt (pVar 1) (pC (.int 10000000))))
    (pRet (pVal (pOp fMod (pOp fAdd (pFrz (pCallB 0 2 g__law_take (pCons (pC (.int 10000000)) pNil))) (pOp fMulI (pC (.int 10000000)) (pFrz (pCallB 0 2 g__law_take (pCons (pOp fAdd (pOp fDiv (pOp fSub (pVar 1) (pC (.int 1))) (pC (.int 10000000))) (pC (.int 1))) pNil))))) (pVar 1))))
    pNext)
    (pSeq (pStore 0 (pC (.int 2)) (pOp fAdd (pIxO 0 (pC (.int 2))) (pC (.int 1))))
    (pSeq (pSet 3 (pVal (pOp fMod (pOp fMulI (pOp fAdd (pIxO 0 (pC (.int 1))) (pOp fMulI (pC (.int 48271)) (pIxO 0 (pC (.int 2))))) (pOp fAdd (pC (.int 39373)) (pIxO 0 (pC (.int 2))))) (pC (.int 2147483647)))))
    (pSeq (pSet 4 (pVal (pOp fMod (pOp fMulI (pOp fAdd (pOp fAdd (pVar 3) (pIxO 0 (pC (.int 2)))) (pOp fDiv (pIxO 0 (pC (.int 1))) (pC (.int 1000003)))) (pOp fAdd (pOp fMod (pVar 3) (pC (.int 40009))) (pC (.int 7)))) (pC (.int 2147483629)))))
    (pRet (pVal (pOp fMod (pOp fDiv (pOp fMod (pOp fAdd (pOp fMulI (pVar 4) (pC (.int 48271))) (pVar 3)) (pC (.int 2147483587))) (pC (.int 64))) (pVar 1)))))))))
abbrev N__law_dune : List Str := [("_law_box_here" : Str), ("_law_size" : Str), ("_law_many" : Str), ("_law_wide" : Str), ("_law_told" : Str), ("_law_pole" : Str)]
def T__law_dune (g__law_take : FB) : TSp :=
  (pSeq (pPar 2 3 (pCons (pOp fAdd (pC (.int 1)) (pFrz (pCallB 0 2 g__law_take (pCons (pVar 1) pNil)))) (pCons (pOp fIx (pLst (pCons (pC (.int 2)) (pCons (pC (.int 12)) (pCons (pC (.int 60)) (pCons (pC (.int 1000000000)) pNil))))) (pFrz (pCallB 0 2 g__law_take (pCons (pC (.int 4)) pNil)))) pNil)))
    (pSeq (pSet 4 (pLstO pNil))
    (pSeq (pFor (jRng1 (pCons (pVar 2) pNil)) (hName 5)
    (pAppend 4 (pOp fIx (pLst (pCons (pC (.int 0)) (pCons (pVar 3) (pCons (pOp fSub (pFrz (pCallB 0 2 g__law_take (pCons (pOp fAdd (pOp fMulI (pC (.int 2)) (pVar 3)) (pC (.int 1))) pNil))) (pVar 3)) (pCons (pFrz (pCallB 0 2 g__law_take (pCons (pOp fAdd (pVar 3) (pC (.int 1))) pNil))) pNil))))) (pFrz (pCallB 0 2 g__law_take (pCons (pC (.int 4)) pNil))))))
    (pRet (pVal (pCB fTup (pCons (pVar 4) pNil)))))))
abbrev N_days : List Str := [("dune" : Str), ("almanac" : Str), ("rows" : Str), ("wind" : Str)]
def T_days (g_blown : FA) : TSp :=
  (pSeq (pSet 2 (pLstO (pCons (pCB fTup (pCons (pVar 0) pNil)) pNil)))
    (pSeq (pFor (jSeq (pVar 1)) (hName 3)
    (pAppend 2 (pFrz (pCallA 2 g_blown (pCons (pIxO 2 (pUn fNeg (pC (.int 1)))) (pCons (pVar 3) pNil))))))
    (pRet (pMove 2))))
abbrev N_behind : List Str := [("dune" : Str), ("almanac" : Str)]
def T_behind (g_days : FA) : TSp :=
  (pRet (pVal (pOp fIx (pFrz (pCallA 2 g_days (pCons (pVar 0) (pCons (pVar 1) pNil)))) (pUn fNeg (pC (.int 1))))))
abbrev N__law_same : List Str := [("_law_told" : Str), ("_law_due" : Str), ("_law_here" : Str), ("_law_two" : Str)]
def T__law_same (g__law_same : FA) : TSp :=
  (pSeq (pIfS (pTest (pIsi2 D.isLst D.isTup (pVar 1)))
    (pSeq (pIfS (pOr (pTest (pOp fNe (pIsi D.isLst (pVar 0)) (pIsi D.isLst (pVar 1)))) (pTest (pOp fNe (pIsi D.isTup (pVar 0)) (pIsi D.isTup (pVar 1)))))
    (pRet (pVal (pC (.bl false))))
    pNext)
    (pRet (pVal (pAndV (pOp fEq (pLenO 0) (pLenO 1)) (pCB fAll (pCons (pLc (jZ2 (pCons (pVar 0) (pCons (pVar 1) pNil))) (hTup 2 (hCons (hName 2) (hCons (hName 3) hNil))) pYes (pFrz (pCallA 2 g__law_same (pCons (pVar 2) (pCons (pVar 3) pNil)))) [2, 3]) pNil))))))
    pNext)
    (pSeq (pIfS (pOr (pTest (pOp fIsN (pVar 1) (pC .non))) (pTest (pIsi2 D.isBl D.isStr (pVar 1))))
    (pRet (pVal (pAndV (pOp fEq (pVar 0) (pVar 1)) (pAndV (pOp fEq (pIsi D.isBl (pVar 0)) (pIsi D.isBl (pVar 1))) (pOp fEq (pOp fIsN (pVar 0) (pC .non)) (pOp fIsN (pVar 1) (pC .non)))))))
    pNext)
    (pRet (pVal (pAndV (pIsi D.isInt (pVar 0)) (pAndV (pNotV (pIsi D.isBl (pVar 0))) (pOp fEq (pVar 0) (pVar 1))))))))
abbrev N__law_blown : List Str := [("_law_hill" : Str), ("_law_gust" : Str), ("_law_sign" : Str), ("_law_slope_here" : Str), ("_law_told" : Str), ("_law_i" : Str), ("_law_j" : Str)]
def T__law_blown : TSp :=
  (pSeq (pAsg (pVar 1) (hTup 2 (hCons (hName 2) (hCons (hName 3) hNil))))
    (pSeq (pSet 4 (pLstO pNil))
    (pSeq (pFor (jRng1 (pCons (pLenO 0) pNil)) (hName 5)
    (pIfS (pTest (pOp fEq (pVar 2) (pC (.str "cut"))))
    (pAppend 4 (pCB (fBest min) (pCons (pLc (jRng1 (pCons (pLenO 0) pNil)) (hName 6) pYes (pOp fAdd (pIxO 0 (pVar 6)) (pOp fMulI (pVar 3) (pCB fAbs (pCons (pOp fSub (pVar 5) (pVar 6)) pNil)))) [6]) pNil)))
    (pAppend 4 (pCB (fBest max) (pCons (pLc (jRng1 (pCons (pLenO 0) pNil)) (hName 6) pYes (pOp fSub (pIxO 0 (pVar 6)) (pOp fMulI (pVar 3) (pCB fAbs (pCons (pOp fSub (pVar 5) (pVar 6)) pNil)))) [6]) pNil)))))
    (pRet (pVal (pCB fTup (pCons (pVar 4) pNil)))))))
abbrev N__law_slope : List Str := [("_law_box_here" : Str)]
def T__law_slope (g__law_take : FB) : TSp :=
  (pRet (pCallB 0 2 g__law_take (pCons (pOp fIx (pLst (pCons (pC (.int 4)) (pCons (pC (.int 9)) (pCons (pC (.int 40)) (pCons (pC (.int 1000000000)) pNil))))) (pFrz (pCallB 0 2 g__law_take (pCons (pC (.int 4)) pNil)))) pNil)))
abbrev N__law_behind : List Str := [("_law_hill" : Str), ("_law_winds" : Str), ("_law_gust" : Str)]
def T__law_behind (g__law_blown : FA) : TSp :=
  (pSeq (pFor (jSeq (pVar 1)) (hName 2)
    (pSet 0 (pCallA 2 g__law_blown (pCons (pVar 0) (pCons (pVar 2) pNil)))))
    (pRet (pVal (pCB fTup (pCons (pVar 0) pNil)))))
end Pl
namespace Pl
open PySem PySem.Spec PyProof.Rows L2
def g_mirrored : FA := fun ds C => ∃ d ns, ds = [d] ∧ Sq d ns ∧ C (.val (.tup (dI ns.reverse)))
def g_upside : FA := fun ds C => ∃ d ns, ds = [d] ∧ Sq d ns ∧ ns.length ≤ 1000 ∧ C (.val (.tup (dI (ns.map fun x => -x))))
def g_cut_onward : FA := fun ds C => ∃ d ns s, ds = [d, .int s] ∧ Sq d ns ∧ ns ≠ [] ∧ ns.length ≤ 1000 ∧ ∀ a, C (.own a (dI (cutOn s ns)))
def g_cut_to : FA := fun ds C => ∃ d ns s, ds = [d, .int s] ∧ Sq d ns ∧ ns ≠ [] ∧ ns.length ≤ 1000 ∧ C (.val (.tup (dI (cutTo s ns))))
theorem rd_mirrored : ∀ ds C, ds.length = 1 → g_mirrored ds C → T_mirrored { nx := fun _ => C (.val .non), rt := fun c _ => C c } (startA N_mirrored ds) := by
  rintro ds C - ⟨d, ns, rfl, hd, hC⟩
  unfold dI at hC
  rw [List.map_reverse] at hC
  rcases hd with rfl | rfl <;> exact hC
theorem rd_upside : ∀ ds C, ds.length = 1 → g_upside ds C → T_upside { nx := fun _ => C (.val .non), rt := fun c _ => C c } (startA N_upside ds) := by
  rintro ds C - ⟨d, ns, rfl, hd, hl, hC⟩
  have key : lcW [1] (hName 1) pYes (pUn fNeg (pVar 1)) (fun acc ρ2 => C (.val (.tup acc))) (dI ns) [] [some (.val d), none] := by
    refine lcW_ints (h := fun x => .int (-x)) (fun x _ K hK => hK _ rfl) hl ?_
    unfold dI at hC
    rw [List.map_map] at hC
    exact hC
  rcases hd with rfl | rfl <;> exact key
theorem rd_cut_onward : ∀ ds C, ds.length = 2 → g_cut_onward ds C → T_cut_onward { nx := fun _ => C (.val .non), rt := fun c _ => C c } (startA N_cut_onward ds) := by
  rintro ds C - ⟨d, ns, s, rfl, hd, hne, hl, hC⟩
  cases ns with
  | nil => exact absurd rfl hne
  | cons x r =>
    have key : ∀ (dd : D) (a : Addr) (w : Option Cell) (P : PEnds), (∀ ρ, (∃ w, ρ = [some (.val dd), some (.val (.int s)), some (.own a (dI (cutOn s (x :: r)))), w]) → P.nx ρ) → forW (hName 3) (pAppend 2 (pCB fMin2 (pCons (pVar 3) (pCons (pOp fAdd (pIxO 2 (pUn fNeg (pC (.int 1)))) (pVar 1)) pNil)))) P (dI r) [some (.val dd), some (.val (.int s)), some (.own a [.int x]), w] := by
      intro dd a w P hP
      refine for_inv (fun ds ρ => ∃ (done : List Int) (p : Int) (rest : List Int) (w : Option Cell), ds = dI rest ∧ ρ = [some (.val dd), some (.val (.int s)), some (.own a (dI (done ++ [p]))), w] ∧ cutOn s (x :: r) = done ++ p :: cutFrom s p rest) (fun d rst ρ K hK hI => ?_) (fun ρ hI => ?_) (dI r) _ ⟨[], x, r, w, rfl, rfl, rfl⟩
      · obtain ⟨done, p, rest, w, e1, rfl, e3⟩ := hI
        cases rest with
        | nil => cases e1
        | cons h rest =>
          cases e1
          have hlen : (dI (done ++ [p])).length ≤ 1000 := by
            have := congrArg List.length e3
            rw [cutOn_len] at this
            simp at this ⊢
            simp at hl
            omega
          refine ⟨dI (done ++ [p]), -1, .int p, rfl, rfl, ?_, dI (done ++ [p]), rfl, small1000 hlen, ?_⟩
          · rw [show dI (done ++ [p]) = dI done ++ [.int p] from by simp]
            exact atI_last _ _
          · refine hK _ ⟨done ++ [p], min h (p + s), rest, some (.val (.int h)), rfl, ?_, ?_⟩
            · rw [show dI (done ++ [p] ++ [min h (p + s)]) = dI (done ++ [p]) ++ [.int (min h (p + s))] from by simp]
              rfl
            · rw [e3]; simp [cutFrom]
      · obtain ⟨done, p, rest, w, e1, rfl, e3⟩ := hI
        cases rest with
        | cons h rest => cases e1
        | nil =>
          refine hP _ ⟨w, ?_⟩
          rw [e3]; rfl
    have hz : (1 : Nat) ≤ sizeLine := by decide
    rcases hd with rfl | rfl
    · refine ⟨.int x, atI_zero _ _, hz, fun a => ?_⟩
      show forW _ _ _ (cutD (dI (x :: r)) (some 1) none) _
      rw [cutD_from1]
      refine key _ a _ _ fun ρ ⟨w, e⟩ => ?_
      subst e
      exact hC a
    · refine ⟨.int x, atI_zero _ _, hz, fun a => ?_⟩
      show forW _ _ _ (cutD (dI (x :: r)) (some 1) none) _
      rw [cutD_from1]
      refine key _ a _ _ fun ρ ⟨w, e⟩ => ?_
      subst e
      exact hC a
theorem rev_ne {l : List Int} (h : l ≠ []) : l.reverse ≠ [] := by simpa using h
theorem ne_len {l m : List Int} (h : l.length = m.length) (hm : m ≠ []) : l ≠ [] := by
  intro e; subst e; cases m with
  | nil => exact hm rfl
  | cons _ _ => cases h
theorem rd_cut_to : ∀ ds C, ds.length = 2 → g_cut_to ds C → T_cut_to g_mirrored g_cut_onward { nx := fun _ => C (.val .non), rt := fun c _ => C c } (startA N_cut_to ds) := by
  rintro ds C - ⟨d, ns, s, rfl, hd, hne, hl, hC⟩
  refine ⟨rfl, d, ns, s, rfl, hd, hne, hl, fun a => ?_⟩
  refine ⟨rfl, _, cutOn s ns, rfl, .inr rfl, rfl, _, (cutOn s ns).reverse, s, rfl, .inl rfl, rev_ne (ne_len (cutOn_len s ns) hne), by rw [List.length_reverse, cutOn_len]; exact hl, fun b => ?_⟩
  exact ⟨rfl, _, _, rfl, .inr rfl, hC⟩
def wordS : Bool → Str
  | true => "cut"
  | false => "fill"
def windD (cut : Bool) (s : Int) : D := .tup [.str (wordS cut), .int s]
def blownL (cut : Bool) (s : Int) (ns : List Int) : List Int := if cut = true then cutTo s ns else fillTo s ns
def g_blown : FA := fun ds C => ∃ d ns cut s, ds = [d, windD cut s] ∧ Sq d ns ∧ ns ≠ [] ∧ ns.length ≤ 1000 ∧ C (.val (.tup (dI (blownL cut s ns))))
theorem sh_cut : (D.str "cut").sh := by unfold D.sh; decide +kernel
theorem sh_fill : (D.str "fill").sh := by unfold D.sh; decide +kernel
theorem sh_int (i : Int) : (D.int i).sh := by unfold D.sh toPy; rfl
theorem sh_bl (i : Bool) : (D.bl i).sh := by unfold D.sh toPy; rfl
theorem canLay_ints : ∀ ns : List Int, PyData.canLayAll0 (toPys (dI ns)) = true
  | [] => rfl
  | n :: ns => by
    show (PyData.canLay0 (toPy (.int n)) && PyData.canLayAll0 (toPys (dI ns))) = true
    rw [canLay_ints ns]; rfl
theorem depth_dI : ∀ ns : List Int, PyData.depthAll (toPys (dI ns)) = 0
  | [] => rfl
  | n :: ns => by
    show max (PyData.depth (toPy (.int n))) (PyData.depthAll (toPys (dI ns))) = 0
    rw [depth_dI ns]; rfl
theorem eqvAll_dI : ∀ a b : List Int, PyData.eqvAll (toPys (dI a)) (toPys (dI b)) = decide (a = b)
  | [], [] => rfl
  | [], _ :: _ => rfl
  | _ :: _, [] => rfl
  | x :: a, y :: b => by
    show (x == y && PyData.eqvAll (toPys (dI a)) (toPys (dI b))) = _
    rw [eqvAll_dI a b]
    by_cases h1 : x = y
    · subst h1; simp
    · have : (x == y) = false := by simpa using h1
      rw [this]; simp [h1]
theorem eqv_tupI (a b : List Int) : (D.tup (dI a)).eqv (.tup (dI b)) = decide (a = b) := eqvAll_dI a b
theorem eqv_bl (a b : Bool) : (D.bl a).eqv (.bl b) = (a == b) := rfl
theorem eqv_int (a b : Int) : (D.int a).eqv (.int b) = (a == b) := rfl
theorem rd_blown : ∀ ds C, ds.length = 2 → g_blown ds C → T_blown g_upside g_cut_to { nx := fun _ => C (.val .non), rt := fun c _ => C c } (startA N_blown ds) := by
  rintro ds C - ⟨d, ns, cut, s, rfl, hd, hne, hl, hC⟩
  cases cut with
  | true =>
    refine ⟨rfl, rfl, sh_cut, sh_cut, ifT (by decide +kernel) ?_⟩
    exact ⟨rfl, d, ns, s, rfl, hd, hne, hl, hC⟩
  | false =>
    refine ⟨rfl, rfl, sh_fill, sh_cut, ifF (by decide +kernel) ?_⟩
    refine ⟨rfl, d, ns, rfl, hd, hl, rfl, _, _, s, rfl, .inl rfl, by simpa using hne, by simpa using hl, rfl, _, _, rfl, .inl rfl, by rw [cutTo_len]; simpa using hl, ?_⟩
    exact hC
def g__law_cell_at : FA := fun ds C => ∃ ns k, ds = [.scr ns, .int k] ∧ 0 ≤ k ∧ ∀ n, C (.val (.int n))
theorem rd__law_cell_at : ∀ ds C, ds.length = 2 → g__law_cell_at ds C → T__law_cell_at { nx := fun _ => C (.val .non), rt := fun c _ => C c } (startA N__law_cell_at ds) := by
  rintro ds C - ⟨ns, k, rfl, hk, hC⟩
  refine ifB (fun h => ?_) (fun h => ?_)
  · have h := dT h
    obtain ⟨j, rfl⟩ := Int.eq_ofNat_of_zero_le hk
    have hj : j < ns.length := by simpa using h
    exact ⟨ns[j], atI_nat (List.getElem?_eq_getElem hj), hC _⟩
  · exact hC _
def Bx (n : Nat) (xs : List D) : Prop := ∃ a b c : Int, xs = [.int a, .int b, .int c] ∧ 0 ≤ a ∧ 0 ≤ b ∧ b ≤ 2 ^ 62 ∧ 0 ≤ c ∧ c ≤ n
theorem Bx.mono {n m : Nat} {xs : List D} (h : Bx n xs) (hm : n ≤ m) : Bx m xs := by
  obtain ⟨a, b, c, h1, h2, h3, h4, h5, h6⟩ := h
  exact ⟨a, b, c, h1, h2, h3, h4, h5, by omega⟩
def g__law_box : FA := fun ds C => ∃ ns k, ds = [.scr ns, .int k] ∧ 0 ≤ k ∧ k ≤ 1000000 ∧ ∀ a xs, Bx 0 xs → C (.own a xs)
theorem iabs_nonneg (i : Int) : 0 ≤ iabs i := by unfold iabs; split <;> omega
theorem rd__law_box : ∀ ds C, ds.length = 2 → g__law_box ds C → T__law_box g__law_cell_at { nx := fun _ => C (.val .non), rt := fun c _ => C c } (startA N__law_box ds) := by
  rintro ds C - ⟨ns, k, rfl, hk, hk2, hC⟩
  refine ⟨rfl, ns, k, rfl, hk, fun n => ?_⟩
  refine ⟨.inr ?_, (by show (0 : Int) < 2305843009213693951; decide), .inl (by constructor <;> decide), by show (3 : Nat) ≤ sizeLine; decide, fun a => hC a _ ⟨_, _, _, rfl, ?_, ?_, ?_, Int.le_refl _, Int.le_refl _⟩⟩
  · constructor <;> split <;> decide
  · refine Int.mul_nonneg (iabs_nonneg n) ?_
    split <;> decide
  · have := Int.emod_nonneg n (b := 2305843009213693951) (by decide)
    omega
  · have := Int.emod_lt_of_pos n (b := 2305843009213693951) (by decide)
    omega
def g_take (top : Int) : FB := fun xs ds C => ∃ n size, n ≤ 1000000000000 ∧ Bx n xs ∧ ds = [.int size] ∧ 0 < size ∧ size ≤ top ∧ ∀ r ys, 0 ≤ r → r < size → Bx (n + 2) ys → C (.val (.int r)) ys
def g_none : FB := fun _ _ _ => False
def g_take0 : FB := fun xs ds C => ∃ n size, n ≤ 1000000000001 ∧ Bx n xs ∧ ds = [.int size] ∧ 0 < size ∧ size ≤ 10000000 ∧ ∀ r ys, 0 ≤ r → r < size → Bx (n + 1) ys → C (.val (.int r)) ys
theorem rd_take0g (gg : FB) : ∀ a xs ds C, ds.length + 1 = 2 → g_take0 xs ds C → T__law_take gg { nx := fun ρ => ∃ ys, ρ[0]? = some (some (.own a ys)) ∧ C (.val .non) ys, rt := fun c ρ => ∃ ys, ρ[0]? = some (some (.own a ys)) ∧ C c ys } (startB N__law_take a xs ds) := by
  rintro a xs ds C - ⟨n, size, hn, ⟨b0, b1, b2, rfl, h0, h1, h1', h2, h2'⟩, rfl, hs0, hs, hC⟩
  refine ⟨_, _, _, rfl, rfl, rfl, ifB (fun h => ?_) (fun h => ?_)⟩
  · have h := dT h
    refine ⟨_, _, _, rfl, rfl, rfl, hs0, _, _, _, rfl, rfl, rfl, ⟨hs0, by omega⟩, _, _, _, rfl, rfl, rfl, _, rfl, hC _ _ (Int.emod_nonneg _ (by omega)) (Int.emod_lt_of_pos _ hs0) ⟨_, _, _, rfl, Int.ediv_nonneg h0 (by omega), h1, h1', h2, by omega⟩⟩
  · refine ifF (decide_eq_false (by omega)) ?_
    refine ⟨_, _, _, rfl, rfl, rfl, _, _, _, rfl, rfl, rfl, ?_⟩
    refine ⟨_, _, _, rfl, rfl, rfl, _, _, _, rfl, rfl, rfl, .inl ⟨by decide, by decide⟩, _, _, _, rfl, rfl, rfl, .inr ⟨?_, ?_⟩, (by show (0 : Int) < 2147483647; decide), ?_⟩
    · show (-(2 ^ 64) : Int) < 39373 + (b2 + 1); omega
    · show (39373 + (b2 + 1) : Int) < 2 ^ 64; omega
    refine ⟨_, _, _, rfl, rfl, rfl, _, _, _, rfl, rfl, rfl, ⟨by decide, by decide⟩, (by show (0 : Int) < 40009; decide), .inr ⟨?_, ?_⟩, (by show (0 : Int) < 2147483629; decide), ?_⟩
    · have := Int.emod_nonneg ((b1 + 48271 * (b2 + 1)) * (39373 + (b2 + 1)) % 2147483647) (b := 40009) (by decide)
      show (-(2 ^ 64) : Int) < (b1 + 48271 * (b2 + 1)) * (39373 + (b2 + 1)) % 2147483647 % 40009 + 7
      omega
    · have := Int.emod_lt_of_pos ((b1 + 48271 * (b2 + 1)) * (39373 + (b2 + 1)) % 2147483647) (b := 40009) (by decide)
      show (b1 + 48271 * (b2 + 1)) * (39373 + (b2 + 1)) % 2147483647 % 40009 + 7 < (2 ^ 64 : Int)
      omega
    refine ⟨.inr ⟨by decide, by decide⟩, (by show (0 : Int) < 2147483587; decide), ⟨by decide, by decide⟩, hs0, _, rfl, hC _ _ (Int.emod_nonneg _ (by omega)) (Int.emod_lt_of_pos _ hs0) ⟨_, _, _, rfl, h0, h1, h1', by omega, ?_⟩⟩
    show b2 + 1 ≤ ((n + 1 : Nat) : Int)
    omega
theorem rd_take0 : ∀ a xs ds C, ds.length + 1 = 2 → g_take0 xs ds C → T__law_take g_none { nx := fun ρ => ∃ ys, ρ[0]? = some (some (.own a ys)) ∧ C (.val .non) ys, rt := fun c ρ => ∃ ys, ρ[0]? = some (some (.own a ys)) ∧ C c ys } (startB N__law_take a xs ds) := rd_take0g g_none
theorem rd_take : ∀ a xs ds C, ds.length + 1 = 2 → g_take 100000000000000 xs ds C → T__law_take g_take0 { nx := fun ρ => ∃ ys, ρ[0]? = some (some (.own a ys)) ∧ C (.val .non) ys, rt := fun c ρ => ∃ ys, ρ[0]? = some (some (.own a ys)) ∧ C c ys } (startB N__law_take a xs ds) := by
  rintro a xs ds C - ⟨n, size, hn, hB, rfl, hs0, hs, hC⟩
  have hB' := hB
  obtain ⟨b0, b1, b2, rfl, h0, h1, h1', h2, h2'⟩ := hB
  by_cases hbig : size ≤ 10000000
  · exact rd_take0g g_take0 a _ _ C rfl ⟨n, size, by omega, hB', rfl, hs0, hbig, fun r ys q1 q2 q3 => hC r ys q1 q2 (q3.mono (by omega))⟩
  · refine ⟨_, _, _, rfl, rfl, rfl, ifB (fun h => ?_) (fun h => ?_)⟩
    · have h := dT h
      refine ⟨_, _, _, rfl, rfl, rfl, hs0, _, _, _, rfl, rfl, rfl, ⟨hs0, by omega⟩, _, _, _, rfl, rfl, rfl, _, rfl, hC _ _ (Int.emod_nonneg _ (by omega)) (Int.emod_lt_of_pos _ hs0) ⟨_, _, _, rfl, Int.ediv_nonneg h0 (by omega), h1, h1', h2, by omega⟩⟩
    · refine ifT (decide_eq_true (by omega)) ?_
      refine ⟨_, rfl, rfl, n, 10000000, by omega, hB', rfl, by decide, by decide, fun r1 ys1 q1 q2 q3 => ?_⟩
      have e1 : 0 ≤ (size - 1) / 10000000 := Int.ediv_nonneg (by omega) (by decide)
      have e2 : (size - 1) / 10000000 < 10000000 := Int.ediv_lt_of_lt_mul (by decide) (by omega)
      refine ⟨⟨by decide, by decide⟩, _, rfl, rfl, n + 1, (size - 1) / 10000000 + 1, by omega, q3, rfl, by omega, by omega, fun r2 ys2 p1 p2 p3 => ?_⟩
      refine ⟨.inl ⟨by decide, by decide⟩, hs0, _, rfl, hC _ _ (Int.emod_nonneg _ (by omega)) (Int.emod_lt_of_pos _ hs0) p3⟩
theorem mem_of_atI {α : Type} {xs : List α} {i : Int} {v : α} (h : atI xs i = some v) : v ∈ xs := by
  obtain ⟨j, _, h2, _⟩ := atI_get h
  exact List.mem_of_getElem? h2
theorem atI_below {α : Type} {xs : List α} {i : Int} (h0 : 0 ≤ i) (h1 : i < xs.length) : ∃ v, atI xs i = some v := by
  obtain ⟨j, rfl⟩ := Int.eq_ofNat_of_zero_le h0
  exact ⟨xs[j]'(by omega), atI_nat (List.getElem?_eq_getElem (by omega))⟩
def g__law_dune : FB := fun xs ds C => ∃ n size, n ≤ 100000000000 ∧ Bx n xs ∧ ds = [.int size] ∧ 0 < size ∧ size ≤ 100 ∧ ∀ ns zs, ns ≠ [] → (ns.length : Int) ≤ size → (∀ x ∈ ns, -1000000000 ≤ x ∧ x ≤ 1000000000) → Bx (n + 2000) zs → C (.val (.tup (dI ns))) zs
theorem rd__law_dune : ∀ a xs ds C, ds.length + 1 = 2 → g__law_dune xs ds C → T__law_dune (g_take 100000000000000) { nx := fun ρ => ∃ ys, ρ[0]? = some (some (.own a ys)) ∧ C (.val .non) ys, rt := fun c ρ => ∃ ys, ρ[0]? = some (some (.own a ys)) ∧ C c ys } (startB N__law_dune a xs ds) := by
  rintro a xs ds C - ⟨n, size, hn, hB, rfl, hs0, hs, hC⟩
  refine ⟨_, rfl, rfl, n, size, by omega, hB, rfl, by omega, by omega, fun many ys1 q1 q2 q3 => ?_⟩
  refine ⟨by show (4 : Nat) ≤ sizeLine; decide, _, rfl, rfl, n + 2, 4, by omega, q3, rfl, by decide, by decide, fun r2 ys2 p1 p2 p3 => ?_⟩
  obtain ⟨v, hv⟩ := atI_below (xs := [D.int 2, .int 12, .int 60, .int 1000000000]) p1 p2
  refine ⟨v, hv, ?_⟩
  obtain ⟨wide, rfl, hw0, hw⟩ : ∃ wide, v = .int wide ∧ 0 < wide ∧ wide ≤ 1000000000 := by
    have := mem_of_atI hv
    simp at this
    rcases this with e | e | e | e <;> subst e <;> exact ⟨_, rfl, by decide, by decide⟩
  refine ⟨by show (0 : Nat) ≤ sizeLine; decide, fun b => ⟨by show (-(2 ^ 62) : Int) ≤ 1 + many; omega, by show (1 + many : Int) < 2 ^ 62; omega, ?_⟩⟩
  have key : ∀ (m : Nat) (P : PEnds), (∀ ρ, (∃ w ns zs, ρ = [some (.own a zs), some (.val (.int size)), some (.val (.int (1 + many))), some (.val (.int wide)), some (.own b (dI ns)), w] ∧ ns.length = m ∧ (∀ x ∈ ns, -1000000000 ≤ x ∧ x ≤ 1000000000) ∧ Bx (n + 4 + 8 * m) zs) → P.nx ρ) → m ≤ 100 →
      forW (hName 5) (pAppend 4 (pOp fIx (pLst (pCons (pC (.int 0)) (pCons (pVar 3) (pCons (pOp fSub (pFrz (pCallB 0 2 (g_take 100000000000000) (pCons (pOp fAdd (pOp fMulI (pC (.int 2)) (pVar 3)) (pC (.int 1))) pNil))) (pVar 3)) (pCons (pFrz (pCallB 0 2 (g_take 100000000000000) (pCons (pOp fAdd (pVar 3) (pC (.int 1))) pNil))) pNil))))) (pFrz (pCallB 0 2 (g_take 100000000000000) (pCons (pC (.int 4)) pNil))))) P (rangeD 0 m) [some (.own a ys2), some (.val (.int size)), some (.val (.int (1 + many))), some (.val (.int wide)), some (.own b []), none] := by
    intro m P hP hm
    refine for_inv (fun ds ρ => ∃ w ns zs, ds.length + ns.length = m ∧ ρ = [some (.own a zs), some (.val (.int size)), some (.val (.int (1 + many))), some (.val (.int wide)), some (.own b (dI ns)), w] ∧ (∀ x ∈ ns, -1000000000 ≤ x ∧ x ≤ 1000000000) ∧ Bx (n + 4 + 8 * ns.length) zs) (fun d rst ρ K hK hI => ?_) (fun ρ hI => ?_) (rangeD 0 m) _ ⟨none, [], ys2, by simp [rangeD], rfl, by simp, p3⟩
    · obtain ⟨w, ns, zs, hl, rfl, hx, hb⟩ := hI
      have hl' : rst.length + 1 + ns.length = m := hl
      refine ⟨.inl ⟨by decide, by decide⟩, _, rfl, rfl, _, _, ?_, hb, rfl, by omega, by omega, fun r3 ys3 a1 a2 a3 => ?_⟩
      · omega
      refine ⟨_, rfl, rfl, _, _, ?_, a3, rfl, by omega, by omega, fun r4 ys4 b1 b2 b3 => ?_⟩
      · omega
      refine ⟨by show (4 : Nat) ≤ sizeLine; decide, _, rfl, rfl, _, _, ?_, b3, rfl, by decide, by decide, fun r5 ys5 c1 c2 c3 => ?_⟩
      · omega
      obtain ⟨v, hv⟩ := atI_below (xs := [D.int 0, .int wide, .int (r3 - wide), .int r4]) c1 c2
      refine ⟨v, hv, dI ns, rfl, small1000 (by rw [ints_len]; omega), ?_⟩
      obtain ⟨h, rfl, hh⟩ : ∃ h, v = .int h ∧ -1000000000 ≤ h ∧ h ≤ 1000000000 := by
        have := mem_of_atI hv
        simp at this
        rcases this with e | e | e | e <;> subst e <;> exact ⟨_, rfl, by omega, by omega⟩
      refine hK _ ⟨some (.val d), ns ++ [h], ys5, by simp; omega, ?_, fun x hx' => ?_, ?_⟩
      · rw [show dI (ns ++ [h]) = dI ns ++ [.int h] from by simp]; rfl
      · rcases List.mem_append.mp hx' with hx' | hx'
        · exact hx x hx'
        · have := List.mem_singleton.mp hx'; subst this; exact hh
      · exact c3.mono (by simp; omega)
    · obtain ⟨w, ns, zs, hl, rfl, hx, hb⟩ := hI
      have hl : ns.length = m := by simpa using hl
      subst hl
      exact hP _ ⟨w, ns, zs, rfl, rfl, hx, hb⟩
  refine key (1 + many).toNat _ (fun ρ ⟨w, ns, zs, e, hl, hx, hb⟩ => ?_) (by omega)
  subst e
  have h1 : (ns.length : Int) = 1 + many := by omega
  refine ⟨zs, rfl, hC ns zs (fun e => by subst e; simp at h1; omega) (by omega) hx (hb.mono (by omega))⟩
end Pl
namespace Pl
open PySem PySem.Spec PyProof.Rows L2
def g_law : FA := fun ds C => ∃ ns, ds = [.scr ns] ∧ ns.length ≤ 63 ∧ C (.val (.bl true))
end Pl
namespace Pl
open PySem PySem.Spec PyProof.Rows L2
theorem eqv_str (z : Str) : (D.str z).eqv (.str z) = true := by
  show (z == z) = true
  simp
theorem zip_same {α : Type} {f : α → α → D} : ∀ (xs : List α), List.zipWith f xs xs = xs.map fun x => f x x
  | [] => rfl
  | x :: xs => by simp [zip_same xs]
theorem zipD_same (xs : List D) : zipD xs xs = xs.map fun x => .tup [x, x] := zip_same xs
theorem lcW_same {vs : List Nat} {g : TGp} {te : TEp} {Q : List D → Ro → Prop} {ρ : Ro} {xs : List D} (hs : ∀ x ∈ xs, ElemOk vs g te ρ (.tup [x, x]) (.bl true)) (hl : xs.length ≤ 1000) (hQ : Q (xs.map fun _ => .bl true) ρ) : lcW vs g pYes te Q (zipD xs xs) [] ρ := by
  rw [zipD_same]
  refine lcW_map (f := fun _ => .bl true) _ [] (fun d hd => ?_) (by simpa using hl) ?_
  · obtain ⟨x, hx, rfl⟩ := List.mem_map.mp hd
    exact hs x hx
  · rw [List.nil_append, List.map_map]
    exact hQ
theorem all_true {α : Type} (xs : List α) : ((xs.map fun _ => true).all id) = true := by
  induction xs with
  | nil => rfl
  | cons x xs ih => rw [List.map_cons, List.all_cons, ih]; rfl
theorem map_true {α : Type} (xs : List α) : (xs.map fun _ => D.bl true) = (xs.map fun _ => true).map D.bl := by rw [List.map_map]; rfl
theorem rd_same (n : Nat) : ∀ ds C, ds.length = 2 → gS (n + 1) ds C → T__law_same (gS n) { nx := fun _ => C (.val .non), rt := fun c _ => C c } (startA N__law_same ds) := by
  rintro ds C - ⟨d, rfl, ok, hC⟩
  cases d with
  | non =>
    have h : D.non.sh := by unfold D.sh toPy; rfl
    exact ⟨h, h, sh_bl _, sh_bl _, sh_bl _, sh_bl _, hC⟩
  | bl b =>
    refine ⟨sh_bl _, sh_bl _, ?_⟩
    exact ifT (by rw [eqv_bl]; simp) ⟨sh_bl _, sh_bl _, sh_bl _, sh_bl _, hC⟩
  | int i =>
    refine ⟨sh_int _, sh_int _, ?_⟩
    show C (.val (.bl ((D.int i).eqv (.int i))))
    rw [show (D.int i).eqv (.int i) = true by rw [eqv_int]; simp]
    exact hC
  | str z =>
    have hz : (D.str z).sh := by cases n <;> exact ok
    refine ⟨hz, hz, ?_⟩
    exact ifT (eqv_str z) ⟨sh_bl _, sh_bl _, sh_bl _, sh_bl _, hC⟩
  | scr ns => cases n <;> exact ok.elim
  | adr a => cases n <;> exact ok.elim
  | exc _ _ => cases n <;> exact ok.elim
  | lst xs =>
    cases n with
    | zero => exact ok.elim
    | succ n =>
      obtain ⟨hl, hx⟩ := ok
      refine ⟨sh_bl _, sh_bl _, sh_bl _, sh_bl _, sh_int _, sh_int _, ifT (by rw [eqv_int]; simp) ?_⟩
      refine lcW_same (fun x hx' K hK => ⟨rfl, rfl, rfl, x, rfl, hx x hx', hK _ rfl⟩) hl ⟨_, map_true xs, ?_⟩
      rw [all_true]; exact hC
  | tup xs =>
    cases n with
    | zero => exact ok.elim
    | succ n =>
      obtain ⟨hl, hx⟩ := ok
      refine ⟨sh_bl _, sh_bl _, sh_bl _, sh_bl _, sh_int _, sh_int _, ifT (by rw [eqv_int]; simp) ?_⟩
      refine lcW_same (fun x hx' K hK => ⟨rfl, rfl, rfl, x, rfl, hx x hx', hK _ rfl⟩) hl ⟨_, map_true xs, ?_⟩
      rw [all_true]; exact hC
theorem atI_ints' {ns : List Int} {j : Nat} (h : j < ns.length) : atI (dI ns) (j : Int) = some (.int (ns.getD j 0)) := by
  refine atI_nat ?_
  rw [List.getElem?_map, List.getElem?_eq_getElem h, List.getD_eq_getElem?_getD, List.getElem?_eq_getElem h]; rfl
def g__law_blown : FA := fun ds C => ∃ d ns cut s, ds = [d, windD cut s] ∧ Sq d ns ∧ ns ≠ [] ∧ ns.length ≤ 1000 ∧ 0 ≤ s ∧ C (.val (.tup (dI (blownL cut s ns))))
theorem rangeD_map (n : Nat) : rangeD 0 n = dI ((List.range n).map fun (i : Nat) => (i : Int)) := by
  unfold rangeD dI
  rw [List.map_map]
  apply List.map_congr_left
  intro i _
  show D.int (0 + (i : Int)) = D.int (i : Int)
  rw [Int.zero_add]
theorem mem_rng {n : Nat} {x : Int} (h : x ∈ (List.range n).map fun (i : Nat) => (i : Int)) : ∃ j : Nat, j < n ∧ x = j := by
  obtain ⟨j, hj, e⟩ := List.mem_map.mp h
  exact ⟨j, List.mem_range.mp hj, e.symm⟩
theorem minOf_cons {l : List Int} (h : l ≠ []) : ∃ n r, l = n :: r ∧ minOf l = r.foldl min n := by
  cases l with
  | nil => exact absurd rfl h
  | cons n r => exact ⟨n, r, rfl, rfl⟩
theorem maxOf_cons {l : List Int} (h : l ≠ []) : ∃ n r, l = n :: r ∧ maxOf l = r.foldl max n := by
  cases l with
  | nil => exact absurd rfl h
  | cons n r => exact ⟨n, r, rfl, rfl⟩
theorem reachF_ne {s i : Int} {l : List Int} (h : l ≠ []) : reachF s l i ≠ [] := by
  cases l with
  | nil => exact absurd rfl h
  | cons x r => simp [reachF]
theorem blown_turn {d : D} {w1 : Option Cell} {z : Str} {s i : Int} {b : Addr} {acc : List Int} {ns : List Int} (hd : Sq d ns) (hne : ns ≠ []) (hl : ns.length ≤ 1000) (hi0 : 0 ≤ i) (hi : i ≤ 1000) (ha : acc.length < 1000) {cut : Bool} (hz : z = wordS cut) {P : PEnds}
    (hP : P.nx [some (.val d), w1, some (.val (.str z)), some (.val (.int s)), some (.own b (dI (acc ++ [if cut = true then minOf (reach s ns i) else maxOf (reachF s ns i)]))), some (.val (.int i)), none]) :
    (pIfS (pTest (pOp fEq (pVar 2) (pC (.str "cut"))))
    (pAppend 4 (pCB (fBest min) (pCons (pLc (jRng1 (pCons (pLenO 0) pNil)) (hName 6) pYes (pOp fAdd (pIxO 0 (pVar 6)) (pOp fMulI (pVar 3) (pCB fAbs (pCons (pOp fSub (pVar 5) (pVar 6)) pNil)))) [6]) pNil)))
    (pAppend 4 (pCB (fBest max) (pCons (pLc (jRng1 (pCons (pLenO 0) pNil)) (hName 6) pYes (pOp fSub (pIxO 0 (pVar 6)) (pOp fMulI (pVar 3) (pCB fAbs (pCons (pOp fSub (pVar 5) (pVar 6)) pNil)))) [6]) pNil)))) P [some (.val d), w1, some (.val (.str z)), some (.val (.int s)), some (.own b (dI acc)), some (.val (.int i)), none] := by
  have hap : (dI acc).length < sizeLine := small1000 (by rw [ints_len]; omega)
  have e2 : ∀ x : Int, dI (acc ++ [x]) = dI acc ++ [.int x] := fun x => by simp
  have rngl : ((List.range ns.length).map fun (i : Nat) => (i : Int)).length ≤ 1000 := by simpa using hl
  cases cut with
  | true =>
    subst hz
    refine ⟨sh_cut, sh_cut, ifT (by decide +kernel) ?_⟩
    obtain ⟨n0, r0, e0, e1⟩ := minOf_cons (reach_ne (s := s) (i := i) hne)
    have key : lcW [6] (hName 6) pYes (pOp fAdd (pIxO 0 (pVar 6)) (pOp fMulI (pVar 3) (pCB fAbs (pCons (pOp fSub (pVar 5) (pVar 6)) pNil)))) (fun accL ρ2 => ∃ n r, accL = (n :: r).map D.int ∧ ∃ xs1, ρ2[4]? = some (some (.own b xs1)) ∧ xs1.length < sizeLine ∧ P.nx (ρ2.set 4 (some (.own b (xs1 ++ [.int (r.foldl min n)]))))) (rangeD 0 ns.length) [] [some (.val d), w1, some (.val (.str "cut")), some (.val (.int s)), some (.own b (dI acc)), some (.val (.int i)), none] := by
      rw [rangeD_map]
      refine lcW_ints (h := fun j => .int (ns.getD j.toNat 0 + s * aI (i - j))) (fun x hx K hK => ?_) rngl ⟨n0, r0, ?_, dI acc, rfl, hap, ?_⟩
      · obtain ⟨j, hj, rfl⟩ := mem_rng hx
        have b1 : (-(2 ^ 64) : Int) < iabs (i - j) := by unfold iabs; split <;> omega
        have b2 : iabs (i - j) < (2 ^ 64 : Int) := by unfold iabs; split <;> omega
        rcases hd with rfl | rfl
        · exact ⟨_, atI_ints' hj, .inr ⟨b1, b2⟩, hK _ rfl⟩
        · exact ⟨_, atI_ints' hj, .inr ⟨b1, b2⟩, hK _ rfl⟩
      · rw [← e0, List.map_map]; unfold reach; rw [List.map_map]; rfl
      · rw [← e1, ← e2]; exact hP
    have r1 : (-(2 ^ 62) : Int) ≤ ((dI ns).length : Nat) := by rw [ints_len]; omega
    have r2 : (((dI ns).length : Nat) : Int) < 2 ^ 62 := by rw [ints_len]; omega
    have r3 : ((dI ns).length : Int).toNat = ns.length := by rw [ints_len]; omega
    rcases hd with rfl | rfl
    · exact ⟨r1, r2, by rw [r3]; exact key⟩
    · exact ⟨r1, r2, by rw [r3]; exact key⟩
  | false =>
    subst hz
    refine ⟨sh_fill, sh_cut, ifF (by decide +kernel) ?_⟩
    obtain ⟨n0, r0, e0, e1⟩ := maxOf_cons (reachF_ne (s := s) (i := i) hne)
    have key : lcW [6] (hName 6) pYes (pOp fSub (pIxO 0 (pVar 6)) (pOp fMulI (pVar 3) (pCB fAbs (pCons (pOp fSub (pVar 5) (pVar 6)) pNil)))) (fun accL ρ2 => ∃ n r, accL = (n :: r).map D.int ∧ ∃ xs1, ρ2[4]? = some (some (.own b xs1)) ∧ xs1.length < sizeLine ∧ P.nx (ρ2.set 4 (some (.own b (xs1 ++ [.int (r.foldl max n)]))))) (rangeD 0 ns.length) [] [some (.val d), w1, some (.val (.str "fill")), some (.val (.int s)), some (.own b (dI acc)), some (.val (.int i)), none] := by
      rw [rangeD_map]
      refine lcW_ints (h := fun j => .int (ns.getD j.toNat 0 - s * aI (i - j))) (fun x hx K hK => ?_) rngl ⟨n0, r0, ?_, dI acc, rfl, hap, ?_⟩
      · obtain ⟨j, hj, rfl⟩ := mem_rng hx
        have b1 : (-(2 ^ 64) : Int) < iabs (i - j) := by unfold iabs; split <;> omega
        have b2 : iabs (i - j) < (2 ^ 64 : Int) := by unfold iabs; split <;> omega
        rcases hd with rfl | rfl
        · exact ⟨_, atI_ints' hj, .inr ⟨b1, b2⟩, hK _ rfl⟩
        · exact ⟨_, atI_ints' hj, .inr ⟨b1, b2⟩, hK _ rfl⟩
      · rw [← e0, List.map_map]; unfold reachF; rw [List.map_map]; rfl
      · rw [← e1, ← e2]; exact hP
    have r1 : (-(2 ^ 62) : Int) ≤ ((dI ns).length : Nat) := by rw [ints_len]; omega
    have r2 : (((dI ns).length : Nat) : Int) < 2 ^ 62 := by rw [ints_len]; omega
    have r3 : ((dI ns).length : Int).toNat = ns.length := by rw [ints_len]; omega
    rcases hd with rfl | rfl
    · exact ⟨r1, r2, by rw [r3]; exact key⟩
    · exact ⟨r1, r2, by rw [r3]; exact key⟩
theorem rd__law_blown : ∀ ds C, ds.length = 2 → g__law_blown ds C → T__law_blown { nx := fun _ => C (.val .non), rt := fun c _ => C c } (startA N__law_blown ds) := by
  rintro ds C - ⟨d, ns, cut, s, rfl, hd, hne, hl, h0, hC⟩
  have fin : ∀ (b : Addr), forW (hName 5) (pIfS (pTest (pOp fEq (pVar 2) (pC (.str "cut"))))
    (pAppend 4 (pCB (fBest min) (pCons (pLc (jRng1 (pCons (pLenO 0) pNil)) (hName 6) pYes (pOp fAdd (pIxO 0 (pVar 6)) (pOp fMulI (pVar 3) (pCB fAbs (pCons (pOp fSub (pVar 5) (pVar 6)) pNil)))) [6]) pNil)))
    (pAppend 4 (pCB (fBest max) (pCons (pLc (jRng1 (pCons (pLenO 0) pNil)) (hName 6) pYes (pOp fSub (pIxO 0 (pVar 6)) (pOp fMulI (pVar 3) (pCB fAbs (pCons (pOp fSub (pVar 5) (pVar 6)) pNil)))) [6]) pNil))))
      { nx := fun ρ => (pRet (pVal (pCB fTup (pCons (pVar 4) pNil)))) { nx := fun _ => C (.val .non), rt := fun c _ => C c } ρ, rt := fun c _ => C c } (rangeD 0 ns.length) [some (.val d), some (.val (windD cut s)), some (.val (.str (wordS cut))), some (.val (.int s)), some (.own b []), none, none] := by
    intro b
    rw [rangeD_map]
    refine for_inv (fun ds ρ => ∃ (k : Nat) (w : Option Cell), k ≤ ns.length ∧ ds = dI (((List.range ns.length).drop k).map fun (i : Nat) => (i : Int)) ∧ ρ = [some (.val d), some (.val (windD cut s)), some (.val (.str (wordS cut))), some (.val (.int s)), some (.own b (dI ((blownL cut s ns).take k))), w, none]) (fun x rst ρ K hK hI => ?_) (fun ρ hI => ?_) _ _ ⟨0, none, by omega, rfl, rfl⟩
    · obtain ⟨k, w, hk, e1, rfl⟩ := hI
      have hk' : k < ns.length := by
        rcases Nat.lt_or_ge k ns.length with q | q
        · exact q
        · rw [List.drop_eq_nil_of_le (by simpa using q)] at e1; cases e1
      rw [List.drop_eq_getElem_cons (by simpa using hk'), List.getElem_range] at e1
      cases e1
      have hb : blownL cut s ns = if cut = true then cutAll s ns else fillAll s ns := by
        cases cut with
        | true => exact cutTo_all h0 ns
        | false => exact fillTo_all h0 ns
      have hbl : (blownL cut s ns).length = ns.length := by
        rw [hb]; cases cut with
        | true => exact cutAll_len s ns
        | false => exact fillAll_len s ns
      refine blown_turn (i := (k : Int)) (s := s) (acc := (blownL cut s ns).take k) hd hne hl (by omega) (by omega) (by rw [List.length_take]; omega) rfl ?_
      refine hK _ ⟨k + 1, some (.val (.int k)), by omega, rfl, ?_⟩
      have e : (blownL cut s ns).take (k + 1) = (blownL cut s ns).take k ++ [if cut = true then minOf (reach s ns k) else maxOf (reachF s ns k)] := by
        rw [List.take_succ, hb]
        congr 1
        cases cut with
        | true => show ((cutAll s ns)[k]?).toList = _; unfold cutAll; rw [List.getElem?_map, List.getElem?_range hk']; rfl
        | false => show ((fillAll s ns)[k]?).toList = _; unfold fillAll; rw [List.getElem?_map, List.getElem?_range hk']; rfl
      rw [e]
    · obtain ⟨k, w, hk, e1, rfl⟩ := hI
      have hk' : ns.length ≤ k := by
        rcases Nat.lt_or_ge k ns.length with q | q
        · rw [List.drop_eq_getElem_cons (by simpa using q)] at e1; cases e1
        · exact q
      have hbl : (blownL cut s ns).length = ns.length := by
        cases cut with
        | true => exact cutTo_len s ns
        | false => exact fillTo_len s ns
      rw [List.take_of_length_le (by omega)]
      exact hC
  have hz : (0 : Nat) ≤ sizeLine := Nat.zero_le _
  have r1 : (-(2 ^ 62) : Int) ≤ (ns.length : Int) := by omega
  have r2 : (ns.length : Int) < 2 ^ 62 := by omega
  rcases hd with rfl | rfl
  · refine ⟨rfl, rfl, hz, fun b => ⟨?_, ?_, ?_⟩⟩
    · show (-(2 ^ 62) : Int) ≤ ((dI ns).length : Nat); rw [ints_len]; exact r1
    · show (((dI ns).length : Nat) : Int) < 2 ^ 62; rw [ints_len]; exact r2
    · rw [show ((dI ns).length : Int).toNat = ns.length by rw [ints_len]; omega]; exact fin b
  · refine ⟨rfl, rfl, hz, fun b => ⟨?_, ?_, ?_⟩⟩
    · show (-(2 ^ 62) : Int) ≤ ((dI ns).length : Nat); rw [ints_len]; exact r1
    · show (((dI ns).length : Nat) : Int) < 2 ^ 62; rw [ints_len]; exact r2
    · rw [show ((dI ns).length : Int).toNat = ns.length by rw [ints_len]; omega]; exact fin b
end Pl
namespace Pl
open PySem PySem.Spec PyProof.Rows L2
abbrev Wd := Bool × Int
def windsD (ws : List Wd) : List D := ws.map fun w => windD w.1 w.2
def tD (l : List Int) : D := .tup (dI l)
def blW (l : List Int) (w : Wd) : List Int := blownL w.1 w.2 l
def daysL (l : List Int) : List Wd → List (List Int)
  | [] => [l]
  | w :: ws => l :: daysL (blW l w) ws
def behindL (l : List Int) (ws : List Wd) : List Int := ws.foldl blW l
def Am (d : D) (ws : List Wd) : Prop := d = .lst (windsD ws) ∨ d = .tup (windsD ws)
theorem blW_len (l : List Int) (w : Wd) : (blW l w).length = l.length := by
  obtain ⟨c, s⟩ := w
  cases c with
  | true => exact cutTo_len s l
  | false => exact fillTo_len s l
theorem blW_ne {l : List Int} (h : l ≠ []) (w : Wd) : blW l w ≠ [] := ne_len (blW_len l w) h
theorem behindL_len : ∀ (ws : List Wd) (l : List Int), (behindL l ws).length = l.length
  | [], _ => rfl
  | w :: ws, l => by
    show (behindL (blW l w) ws).length = l.length
    rw [behindL_len ws, blW_len]
theorem daysL_last : ∀ (ws : List Wd) (l : List Int), ∃ r, daysL l ws = r ++ [behindL l ws]
  | [], l => ⟨[], rfl⟩
  | w :: ws, l => by
    obtain ⟨r, e⟩ := daysL_last ws (blW l w)
    exact ⟨l :: r, by show l :: daysL (blW l w) ws = _; rw [e]; rfl⟩
theorem windsD_len (ws : List Wd) : (windsD ws).length = ws.length := by simp [windsD]
def g_days : FA := fun ds C => ∃ d ns a ws, ds = [d, a] ∧ Sq d ns ∧ Am a ws ∧ ns ≠ [] ∧ ns.length ≤ 1000 ∧ ws.length ≤ 900 ∧ ∀ p, C (.own p ((daysL ns ws).map tD))
theorem rd_days : ∀ ds C, ds.length = 2 → g_days ds C → T_days g_blown { nx := fun _ => C (.val .non), rt := fun c _ => C c } (startA N_days ds) := by
  rintro ds C - ⟨d, ns, am, ws, rfl, hd, ha, hne, hl, hw, hC⟩
  have key : ∀ (b : Addr), forW (hName 3) (pAppend 2 (pFrz (pCallA 2 g_blown (pCons (pIxO 2 (pUn fNeg (pC (.int 1)))) (pCons (pVar 3) pNil))))) { nx := fun ρ => pRet (pMove 2) { nx := fun _ => C (.val .non), rt := fun c _ => C c } ρ, rt := fun c _ => C c } (windsD ws) [some (.val d), some (.val am), some (.own b [tD ns]), none] := by
    intro b
    refine for_inv (fun ds ρ => ∃ (done : List (List Int)) (cur : List Int) (rest : List Wd) (w : Option Cell), ds = windsD rest ∧ ρ = [some (.val d), some (.val am), some (.own b ((done ++ [cur]).map tD)), w] ∧ daysL ns ws = done ++ daysL cur rest ∧ cur ≠ [] ∧ cur.length = ns.length ∧ done.length + rest.length = ws.length) (fun x rst ρ K hK hI => ?_) (fun ρ hI => ?_) _ _ ⟨[], ns, ws, none, rfl, rfl, rfl, hne, rfl, by simp⟩
    · obtain ⟨done, cur, rest, w, e1, rfl, e3, hc, hcl, hlen⟩ := hI
      cases rest with
      | nil => cases e1
      | cons v rest =>
        cases e1
        have hlen' : done.length + (rest.length + 1) = ws.length := hlen
        have em : (done ++ [cur]).map tD = done.map tD ++ [tD cur] := by simp
        refine ⟨(done ++ [cur]).map tD, -1, tD cur, rfl, rfl, ?_, rfl, _, cur, v.1, v.2, rfl, .inl rfl, hc, by omega, (done ++ [cur]).map tD, rfl, small1000 (by simp; omega), hK _ ⟨done ++ [cur], blW cur v, rest, some (.val (windD v.1 v.2)), rfl, ?_, ?_, blW_ne hc v, by rw [blW_len]; exact hcl, by simp; omega⟩⟩
        · rw [em]; exact atI_last _ _
        · rw [show (done ++ [cur] ++ [blW cur v]).map tD = (done ++ [cur]).map tD ++ [tD (blW cur v)] by simp]; rfl
        · rw [e3]; simp [daysL]
    · obtain ⟨done, cur, rest, w, e1, rfl, e3, hc, hcl, hlen⟩ := hI
      cases rest with
      | cons v rest => cases e1
      | nil =>
        have : daysL ns ws = done ++ [cur] := e3
        show C (.own b ((done ++ [cur]).map tD))
        rw [← this]; exact hC b
  have hz : (1 : Nat) ≤ sizeLine := by decide
  rcases hd with rfl | rfl <;> rcases ha with rfl | rfl <;> exact ⟨hz, fun b => key b⟩
def g_behind : FA := fun ds C => ∃ d ns a ws, ds = [d, a] ∧ Sq d ns ∧ Am a ws ∧ ns ≠ [] ∧ ns.length ≤ 1000 ∧ ws.length ≤ 900 ∧ C (.val (tD (behindL ns ws)))
theorem rd_behind : ∀ ds C, ds.length = 2 → g_behind ds C → T_behind g_days { nx := fun _ => C (.val .non), rt := fun c _ => C c } (startA N_behind ds) := by
  rintro ds C - ⟨d, ns, am, ws, rfl, hd, ha, hne, hl, hw, hC⟩
  refine ⟨rfl, d, ns, am, ws, rfl, hd, ha, hne, hl, hw, fun p => ?_⟩
  obtain ⟨r, e⟩ := daysL_last ws ns
  refine ⟨tD (behindL ns ws), ?_, hC⟩
  rw [e, List.map_append]
  exact atI_last _ _
def g__law_slope : FB := fun xs ds C => ∃ n, n ≤ 100000000000 ∧ Bx n xs ∧ ds = [] ∧ ∀ s zs, 0 ≤ s → s < 1000000000 → Bx (n + 4) zs → C (.val (.int s)) zs
theorem rd__law_slope : ∀ a xs ds C, ds.length + 1 = 1 → g__law_slope xs ds C → T__law_slope (g_take 100000000000000) { nx := fun ρ => ∃ ys, ρ[0]? = some (some (.own a ys)) ∧ C (.val .non) ys, rt := fun c ρ => ∃ ys, ρ[0]? = some (some (.own a ys)) ∧ C c ys } (startB N__law_slope a xs ds) := by
  rintro a xs ds C - ⟨n, hn, hB, rfl, hC⟩
  refine ⟨by show (4 : Nat) ≤ sizeLine; decide, xs, rfl, rfl, n, 4, by omega, hB, rfl, by decide, by decide, fun r ys q1 q2 q3 => ?_⟩
  obtain ⟨v, hv⟩ := atI_below (xs := [D.int 4, .int 9, .int 40, .int 1000000000]) q1 q2
  refine ⟨v, hv, ?_⟩
  obtain ⟨wide, rfl, hw0, hw⟩ : ∃ wide, v = .int wide ∧ 0 < wide ∧ wide ≤ 1000000000 := by
    have := mem_of_atI hv
    simp at this
    rcases this with e | e | e | e <;> subst e <;> exact ⟨_, rfl, by decide, by decide⟩
  exact ⟨ys, rfl, rfl, n + 2, wide, by omega, q3, rfl, hw0, by omega, fun s zs a1 a2 a3 => ⟨zs, rfl, hC s zs a1 (by omega) a3⟩⟩
def g__law_behind : FA := fun ds C => ∃ d ns a ws, ds = [d, a] ∧ Sq d ns ∧ Am a ws ∧ ns ≠ [] ∧ ns.length ≤ 1000 ∧ (∀ w ∈ ws, 0 ≤ w.2) ∧ C (.val (tD (behindL ns ws)))
theorem rd__law_behind : ∀ ds C, ds.length = 2 → g__law_behind ds C → T__law_behind g__law_blown { nx := fun _ => C (.val .non), rt := fun c _ => C c } (startA N__law_behind ds) := by
  rintro ds C - ⟨d, ns, am, ws, rfl, hd, ha, hne, hl, hw, hC⟩
  have key : forW (hName 2) (pSet 0 (pCallA 2 g__law_blown (pCons (pVar 0) (pCons (pVar 2) pNil)))) { nx := fun ρ => (pRet (pVal (pCB fTup (pCons (pVar 0) pNil)))) { nx := fun _ => C (.val .non), rt := fun c _ => C c } ρ, rt := fun c _ => C c } (windsD ws) [some (.val d), some (.val am), none] := by
    refine for_inv (fun ds ρ => ∃ (x : D) (cur : List Int) (rest : List Wd) (w : Option Cell), ds = windsD rest ∧ ρ = [some (.val x), some (.val am), w] ∧ Sq x cur ∧ behindL ns ws = behindL cur rest ∧ cur ≠ [] ∧ cur.length = ns.length ∧ (∀ w ∈ rest, 0 ≤ w.2)) (fun x rst ρ K hK hI => ?_) (fun ρ hI => ?_) _ _ ⟨d, ns, ws, none, rfl, rfl, hd, rfl, hne, rfl, hw⟩
    · obtain ⟨x, cur, rest, w, e1, rfl, hx, e3, hc, hcl, hs⟩ := hI
      cases rest with
      | nil => cases e1
      | cons v rest =>
        cases e1
        exact ⟨rfl, x, cur, v.1, v.2, rfl, hx, hc, by omega, hs v (by simp), hK _ ⟨_, blW cur v, rest, _, rfl, rfl, .inl rfl, e3, blW_ne hc v, by rw [blW_len]; exact hcl, fun w hw' => hs w (by simp [hw'])⟩⟩
    · obtain ⟨x, cur, rest, w, e1, rfl, hx, e3, hc, hcl, hs⟩ := hI
      cases rest with
      | cons v rest => cases e1
      | nil =>
        have e3 : behindL ns ws = cur := e3
        rw [e3] at hC
        rcases hx with rfl | rfl <;> exact hC
  rcases ha with rfl | rfl <;> exact key
end Pl
namespace Pl
open PySem PySem.Spec PyProof.Rows L2
abbrev vI (i : Int) : Option Cell := some (.val (.int i))
abbrev vT (l : List Int) : Option Cell := some (.val (.tup (dI l)))
theorem okN_two {m : Nat} {d e : D} (h1 : okN m d) (h2 : okN m e) : okN (m + 1) (.lst [d, e]) := ⟨by show (2 : Nat) ≤ 1000; decide, fun x hx => by
  rcases List.mem_cons.mp hx with q | q
  · rw [q]; exact h1
  · rw [List.mem_singleton.mp q]; exact h2⟩
theorem blown_gentle {c : Bool} {s : Int} (hs : 0 ≤ s) (l : List Int) : Gentle s (blownL c s l) := by
  cases c with
  | true => exact cutTo_gentle hs l
  | false => exact fillTo_gentle hs l
theorem blown_idle {c : Bool} {s : Int} (hs : 0 ≤ s) {l : List Int} : blownL c s l = l ↔ Gentle s l := by
  cases c with
  | true => exact cutTo_idle hs
  | false => exact fillTo_idle hs
end Pl
namespace Pl
open PySem PySem.Spec PyProof.Rows L2
def row (c : Bool) (s : Int) (ns : List Int) (i : Int) : List Int := if c = true then reach s ns i else reachF s ns i
def Wn (w : D) (c : Bool) (s : Int) : Prop := w = windD c s ∨ w = .lst [.str (wordS c), .int s]
def enumFrom (h : Nat → Int → D) (k : Nat) : List Int → List D
  | [] => []
  | x :: r => h k x :: enumFrom h (k + 1) r
end Pl
namespace Pl
open PySem PySem.Spec PyProof.Rows L2
variable [TJ]
section
variable {X : Cx} {elt tg iter : Expr} {ifs : List Expr} {scope : Scope} {own : List (Str × Nat)} {pos : Pos} {wi : TI} {Ti : TAp} {Gp : TGp} {is : List Nat} {Tt : TTp} {Te : TEp} {vs : List Nat}
theorem pps_setLcV {i : Nat} {y : Str} {py spos : Pos} (hc : X.calm = true) (hN : X.N.Nodup) (hi : PPI X tg iter wi Ti) (ok : BlkOk X.N X.env.scope scope own)
    (hg : ∀ (s : Shared) (H : Hp) (C : Addr) (cl : List (Str × Addr)) (fp : List Addr), PTg (X.blk s H scope (compEnvC scope cl C X.env) fp) tg (liftG X.K Gp is) Gp is) (ht : ∀ (s : Shared) (H : Hp) (C : Addr) (cl : List (Str × Addr)) (fp : List Addr), PPTs (X.blk s H scope (compEnvC scope cl C X.env) fp) ifs (liftT X.K Tt) Tt)
    (he : ∀ (s : Shared) (H : Hp) (C : Addr) (cl : List (Str × Addr)) (fp : List Addr), PPE (X.blk s H scope (compEnvC scope cl C X.env) fp) elt (liftE X.K Te) Te)
    (hy : X.N[i]? = some y := by rfl) (hyl : X.env.scope.names.lookup y = some .local := by rfl)
    (hsw : swapsWith (.ListComp elt [⟨tg, iter, ifs, 0⟩] scope pos) (some (.Name y py)) spos.line X.env = pure true := by exact sw_true rfl rfl rfl (by decide +kernel)) (hs : ∀ x, foldedSetIterable iter X.env x = pure x := by intro _; rfl) (hsub : ∀ i ∈ is, i ∈ own.map (·.2) := by decide) :
    PPS X (.Assign [.Name y py] (.ListComp elt [⟨tg, iter, ifs, 0⟩] scope pos) spos) (tAsg (tLc wi (liftG X.K Gp is) (liftT X.K Tt) (liftE X.K Te) (own.map (·.2))) (gName i)) (pSet i (pVal (pLc Ti Gp Tt Te (own.map (·.2))))) :=
  ⟨(pps_setLcL (i := i) hc hN hi ok hg ht he hy hyl hsw hs hsub).ps, snd_set (ppc_val (ppe_lcL (pos := pos) hc hN hi ok hg ht he hs hsub)).snd⟩
end
end Pl
namespace Pl
open PySem PySem.Spec PyProof.Rows L2
theorem lcW_mapS {α : Type} {vs : List Nat} {g : TGp} {te : TEp} {Q : List D → Ro → Prop} {d f : α → D} {ρ : Ro} : ∀ (xs : List α) (acc : List D), (∀ x ∈ xs, ElemOk vs g te ρ (d x) (f x)) → acc.length + xs.length ≤ sizeLine → Q (acc ++ xs.map f) ρ → lcW vs g pYes te Q (xs.map d) acc ρ
  | [], acc, _, _, hQ => by
    have hQ : Q (acc ++ []) ρ := hQ
    rw [List.append_nil] at hQ
    exact hQ
  | x :: xs, acc, h, hl, hQ => by
    have hl' : acc.length + (xs.length + 1) ≤ sizeLine := hl
    refine h x (by simp) _ fun ρ4 e => ⟨by omega, ?_⟩
    rw [e]
    refine lcW_mapS xs _ (fun y hy => h y (by simp [hy])) (by rw [List.length_append]; show acc.length + 1 + xs.length ≤ sizeLine; omega) ?_
    rw [List.append_assoc]
    exact hQ
end Pl
namespace Pl
open PySem PySem.Spec PyProof.Rows L2
theorem blW_keeps {l : List Int} {t : Int} {w : Wd} (hw : 0 ≤ w.2) (h : Gentle t l) : Gentle t (blW l w) := by
  rcases Int.le_total t w.2 with g | g
  · have : blW l w = l := (blown_idle (c := w.1) hw).mpr (h.mono g)
    rw [this]; exact h
  · exact (blown_gentle (c := w.1) hw l).mono g
theorem behindL_keeps {t : Int} : ∀ {ws : List Wd} {l : List Int}, (∀ w ∈ ws, 0 ≤ w.2) → Gentle t l → Gentle t (behindL l ws)
  | [], _, _, h => h
  | w :: ws, l, hw, h => behindL_keeps (ws := ws) (l := blW l w) (fun v hv => hw v (by simp [hv])) (blW_keeps (hw w (by simp)) h)
theorem behindL_gentle : ∀ {ws : List Wd} {l : List Int}, (∀ w ∈ ws, 0 ≤ w.2) → ∀ w ∈ ws, Gentle w.2 (behindL l ws)
  | [], _, _, _, h => by simp at h
  | v :: ws, l, hw, w, h => by
    have hw' : ∀ u ∈ ws, 0 ≤ u.2 := fun u hu => hw u (by simp [hu])
    rcases List.mem_cons.mp h with e | h
    · subst e
      exact behindL_keeps (ws := ws) (l := blW l w) hw' (blown_gentle (c := w.1) (hw w (by simp)) l)
    · exact behindL_gentle (ws := ws) (l := blW l v) hw' w h
theorem behindL_append (l : List Int) (a b : List Wd) : behindL l (a ++ b) = behindL (behindL l a) b := List.foldl_append
theorem cutD_to {xs : List D} {k : Nat} : cutD xs none (some (k : Int)) = xs.take k := by
  unfold cutD
  rw [HT.sIx_none, HT.sIx_nat, List.drop_zero, Nat.sub_zero]
  rcases Nat.le_total k xs.length with h | h
  · rw [Nat.min_eq_left h]
  · rw [Nat.min_eq_right h, List.take_of_length_le (Nat.le_refl _), List.take_of_length_le h]
theorem windsD_append (a b : List Wd) : windsD a ++ windsD b = windsD (a ++ b) := by unfold windsD; rw [List.map_append]
end Pl
namespace Pl
open PySem PySem.Spec PyProof.Rows L2
variable [TJ]
section
variable {X : Cx} {o e : Expr} {to te : TE} {To Te : TEp}
def pCount (To Te : TEp) : TEp := fun ρ Q => To ρ fun x ρ1 => match x with
  | .str a => Te ρ1 fun y ρ2 => match y with
    | .str b => Q (.int (Txt.count a b)) ρ2
    | _ => False
  | _ => False
theorem ppe_count {apos pos : Pos} (ho : PPE X o to To) (he : PPE X e te Te) (hs : starEach [e] X.env = [(false, eval e X.env)] := by rfl) (hbase : attributeBase o "count" X.env (eval o X.env) = eval o X.env := by rfl) (hline : (apos.endLine == pos.line) = true := by rfl) :
    PPE X (.Call (.Attribute o "count" apos) [e] [] pos) (tM1 (fun x xs H Q => ∃ a b, x = .str a ∧ xs = [.str b] ∧ Q (.int (Txt.count a b)) H) to te) (pCount To Te) := ⟨pe_m1 F.slot_str_count F.type_str_count mt_count ho.pe he.pe hs hbase hline, fun G F H σ ρ Q R S hT k =>
  ho.snd G F H σ ρ _ _ S hT fun v d F1 H1 ρ1 u1 S1 r1 q1 => by
    cases r1 with
    | str a =>
      refine ⟨⟨a, rfl⟩, he.snd G F1 H1 σ ρ1 _ _ S1 q1 fun w dw F2 H2 ρ2 u2 S2 r2 q2 => ?_⟩
      cases r2 with
      | str b => exact ⟨a, b, rfl, rfl, k _ _ F2 H2 ρ2 (u1.trans u2) S2 (.int _) q2⟩
      | _ => exact q2.elim
    | _ => exact q1.elim⟩
theorem Reps.strs {K : PySem.W.Frag} {F : Hp} : ∀ {vs : List V} {ys : List Str}, Reps K F vs (ys.map D.str) → vs = ys.map V.str
  | _, [], .nil => rfl
  | _, y :: ys, .cons h t => by cases h; rw [Reps.strs t]; rfl
def pJoin (To Te : TEp) : TEp := fun ρ Q => To ρ fun x ρ1 => match x with
  | .str a => Te ρ1 fun y ρ2 => match y with
    | .lst zs => ∃ ys : List Str, zs = ys.map D.str ∧ (ys.map (·.length)).sum + ys.length * a.length ≤ 16777216 ∧ Q (.str (Txt.join a ys)) ρ2
    | _ => False
  | _ => False
theorem ppe_join {apos pos : Pos} (ho : PPE X o to To) (he : PPE X e te Te) (hs : starEach [e] X.env = [(false, eval e X.env)] := by rfl) (hbase : attributeBase o "join" X.env (eval o X.env) = eval o X.env := by rfl) (hline : (apos.endLine == pos.line) = true := by rfl) :
    PPE X (.Call (.Attribute o "join" apos) [e] [] pos) (tM1 (fun x xs H Q => ∃ a p, ∃ ys : List Str, x = .str a ∧ xs = [.ref p] ∧ (SqL X.K H p (ys.map V.str) ∨ SqT X.K H p (ys.map V.str)) ∧ (ys.map (·.length)).sum + ys.length * a.length ≤ 16777216 ∧ Q (.str (Txt.join a ys)) H) to te) (pJoin To Te) := ⟨pe_join ho.pe he.pe hs hbase hline, fun G F H σ ρ Q R S hT k =>
  ho.snd G F H σ ρ _ _ S hT fun v d F1 H1 ρ1 u1 S1 r1 q1 => by
    cases r1 with
    | str a =>
      refine ⟨⟨a, rfl⟩, he.snd G F1 H1 σ ρ1 _ _ S1 q1 fun w dw F2 H2 ρ2 u2 S2 r2 q2 => ?_⟩
      cases r2 with
      | lst h r =>
        obtain ⟨ys, rfl, hz, q⟩ := q2
        have := r.strs
        subst this
        exact ⟨a, _, ys, rfl, rfl, .inl (SqL.of (S2.hF _ _ h)), hz, k _ _ F2 H2 ρ2 (u1.trans u2) S2 (.str _) q⟩
      | _ => exact q2.elim
    | _ => exact q1.elim⟩
end
def signsD (x : Str) : List D := x.cps.toList.map fun c => .str ⟨#[c]⟩
theorem signsD_get {x : Str} {i : Nat} {d : D} (h : (signsD x)[i]? = some d) : ∃ c, x.cps[i]? = some c ∧ d = .str ⟨#[c]⟩ := by
  unfold signsD at h
  rw [List.getElem?_map] at h
  cases e : x.cps.toList[i]? with
  | none => rw [e] at h; cases h
  | some c => rw [e] at h; exact ⟨c, by rw [← Array.getElem?_toList]; exact e, (Option.some.inj h).symm⟩
theorem signsD_len (x : Str) : (signsD x).length = x.cps.size := by simp [signsD]
theorem itrep_str {K : PySem.W.Frag} {F : Hp} (x : Str) : ItRep K (Its x) F (signsD x) := fun F' H e1 e2 => by
  refine ⟨fun i d hd => ?_, by show x.cps.size ≤ (signsD x).length; rw [signsD_len]; exact Nat.le_refl _⟩
  obtain ⟨c, hc, rfl⟩ := signsD_get hd
  refine ⟨(Array.getElem?_eq_some_iff.mp hc).1, fun v H' y => ?_⟩
  obtain ⟨rfl, c', hc', rfl⟩ := y
  rw [hc] at hc'
  cases hc'
  exact ⟨F', .old (.str _)⟩
section
variable {X : Cx} {tg : Expr} {l : Expr} {tl : TE} {Tl : TEp} {pos : Pos}
def jStr (T : TEp) : TAp := fun ρ Q => T ρ fun d ρ1 => match d with | .str x => Q (signsD x) ρ1 | _ => False
theorem ppi_str (hl : PPE X l tl Tl) : PPI X tg l (iStr tl) (jStr Tl) := ⟨pi_str hl.pe, fun G F H σ ρ Q R S hT k =>
  hl.snd G F H σ ρ _ _ S hT fun v d F1 H1 ρ1 u1 S1 r1 q1 => by
    cases r1 with
    | str x => exact ⟨x, rfl, k _ _ F1 H1 ρ1 u1 S1 (itrep_str x) q1⟩
    | _ => exact q1.elim⟩
end
def ItES (x : Str) : It :=
  ⟨fun i _ => i < x.cps.size,
    fun i H v H' => ∃ T c, v = .ref T ∧ H T = none ∧ H' = upd H T (.tup [.int (i : Nat), .str ⟨#[c]⟩]) ∧ x.cps[i]? = some c,
    fun i _ => i = x.cps.size⟩
theorem turn_es {P : Program} {w : World} {K : PySem.W.Frag} {elts : List Expr} {kk : Nat} {tpos : Pos} {x : Str} {t : Tok} {e it : Addr} (hei : e ≠ it) :
    Turn P w K (.Tuple elts kk tpos) (ItES x) [e, it] e (fun i h => (∃ old, IsEnum h e it ((0 : Int) + (i : Int)) old) ∧ h.IsStrIter it (strIterType x) x t i) := by
  refine turn_goes (by simp) (fun i h st d hd => ?_) (fun i h h' st k => ?_) (fun X hP hw hK hc i pins s σ H I hf st hg => ?_) fun A i s Q E st h => let ⟨⟨_, he⟩, _⟩ := st; wpAny_pyIter_enum he h
  · obtain ⟨⟨old, he⟩, o, h1, hc, h3⟩ := st
    have e' : d = e ∨ d = it := by simpa using hd
    rcases e' with q | q
    · rw [q]; exact ⟨_, he, fun v q => nomatch q⟩
    · rw [q]; exact ⟨o, h1, fun v z => by rw [h3] at z; cases z⟩
  · obtain ⟨⟨old, he⟩, o, h1, hc, h3⟩ := st
    exact ⟨⟨old, k e (by simp) _ he⟩, o, k it (by simp) o h1, hc, h3⟩
  · subst hP hw hK
    obtain ⟨he, h1⟩ := st
    have hh : X.A.in1.handled = none := I.ok.hd hc
    refine ⟨_, _, _, _, _, GoesN.enumFrom 0 (Draws.text hh it x t) e hei (by simp [hei]) (by simp), ⟨he, h1⟩, fun d hd => hd, fun hgo => ⟨hgo, fun v h' hY st' hk => ?_⟩, fun hs => hs⟩
    obtain ⟨T, tt, u, rfl, hT, hu, htup⟩ := hY
    obtain ⟨he', h1'⟩ := st'
    refine ⟨⟨he', h1'⟩, ?_⟩
    obtain ⟨c, uu, hc2, rfl⟩ := hu
    exact ⟨T, .tup [.int (i : Nat), .str ⟨#[c]⟩], rfl, hT, tup_ok (us := [.int ((0 : Int) + (i : Int)) tt, .str ⟨#[c]⟩ uu]) (.cons ⟨tt, by rw [Int.zero_add]⟩ (.cons ⟨uu, rfl⟩ .nil)) htup (by show 2 ≤ sizeLine; decide), T, c, rfl, I.hok.fresh hT, rfl, hc2⟩
def iES (ta : TA) : TI := fun σ H R => ta σ H fun vs H1 => ∃ x, vs = [.str x] ∧ R (ItES x) H1
theorem pi_es {X : Cx} {e : Expr} {ta : TA} {p pos tpos : Pos} {elts : List Expr} {kk : Nat} (hg : Gl X "enumerate") (hm : X.mg "enumerate" = none) (ha : PA X [e] ta) (hs : starEach [e] X.env = [(false, eval e X.env)] := by rfl) :
    PI X (.Tuple elts kk tpos) (.Call (.Name "enumerate" p) [e] [] pos) (iES ta) := by
  refine ⟨fun pins s σ H R I h => ?_⟩
  refine Call_ (ld_blt (u := .type "enumerate") I hg hm (by decide +kernel) (PyProof.Rows.callWith_type1 (thn (ha.run pos pins s σ H _ I h) fun us s1 ⟨vs, H1, I1, r1, q1⟩ => ?_) (by rw [hs]; rfl) rfl))
  obtain ⟨x, ex, q⟩ := q1
  subst ex
  obtain ⟨u, rfl, t, rfl⟩ := r1.one
  refine enum_begins1 (begins_text x t) trivial fun h' he h1 hsz hk => wpAny_pyIter_enum he ?_
  have I2 : Inv X pins σ H1 { s1 with heap := h' } := I1.kept (t' := s1.toks) hk
  refine ⟨s1.heap.objs.size + 1, [s1.heap.objs.size + 1, s1.heap.objs.size], _, _, H1, rfl, I2,
    turn_es (Nat.ne_of_gt (Nat.lt_succ_self _)), ⟨⟨_, he⟩, ⟨_, h1, rfl, rfl⟩⟩, fun d hdm => ?_, q⟩
  have hle : s1.heap.objs.size ≤ d := by
    have e' : d = s1.heap.objs.size + 1 ∨ d = s1.heap.objs.size := by simpa using hdm
    rcases e' with z | z
    · rw [z]; exact Nat.le_add_right _ _
    · rw [z]; exact Nat.le_refl _
  exact I1.fpOk hle (I1.hok.fresh hle)
theorem itrep_es {K : PySem.W.Frag} {F : Hp} (x : Str) : ItRep K (ItES x) F (enumD 0 (signsD x)) := fun F' H e1 e2 => by
  refine ⟨fun i d hd => ?_, by show (enumD 0 (signsD x)).length = x.cps.size; rw [enumD_len, signsD_len]⟩
  obtain ⟨y, hy, rfl⟩ := enumD_get hd
  obtain ⟨c, hc, rfl⟩ := signsD_get hy
  refine ⟨(Array.getElem?_eq_some_iff.mp hc).1, fun v H' q => ?_⟩
  obtain ⟨T, c', rfl, hT, rfl, hc'⟩ := q
  rw [hc] at hc'
  cases hc'
  rw [Nat.zero_add]
  exact ⟨_, .new hT (.tup upd_same (.cons (.int _) (.cons (.str _) .nil)))⟩
section
variable {X : Cx} {pos : Pos}
def jES (T : TAp) : TAp := fun ρ Q => T ρ fun ds ρ1 => match ds with | [.str x] => Q (enumD 0 (signsD x)) ρ1 | _ => False
theorem ppi_es {e : Expr} {ta : TA} {TA' : TAp} {p tpos : Pos} {elts : List Expr} {kk : Nat} (hg : Gl X "enumerate") (hm : X.mg "enumerate" = none) (ha : PPA X [e] ta TA') (hs : starEach [e] X.env = [(false, eval e X.env)] := by rfl) :
    PPI X (.Tuple elts kk tpos) (.Call (.Name "enumerate" p) [e] [] pos) (iES ta) (jES TA') := ⟨pi_es hg hm ha.pa hs, fun G F H σ ρ Q R S h k =>
  ha.snd G F H σ ρ _ _ S h fun vs ds F' H' ρ' u S' rv q => by
    match ds, rv, q with
    | [.str x], .cons rx .nil, q =>
      cases rx
      exact ⟨x, rfl, k _ _ F' H' ρ' u S' (itrep_es x) q⟩⟩
end
theorem Reps.eraseIdx {K : PySem.W.Frag} {F : Hp} : ∀ {vs : List V} {ds : List D} (i : Nat), Reps K F vs ds → Reps K F (vs.eraseIdx i) (ds.eraseIdx i)
  | _, _, _, .nil => .nil
  | _, _, 0, .cons _ t => t
  | _, _, i + 1, .cons q t => .cons q (Reps.eraseIdx i t)
theorem seqIndex_nat {k n : Nat} (h : k < n) : seqIndex? (k : Int) n = some k := by
  have h1 : ¬ ((k : Int) < 0) := by omega
  have h2 : (decide (0 ≤ (k : Int)) && decide ((k : Int) < (n : Int))) = true := by simp; omega
  show (if (decide (0 ≤ (if (k : Int) < 0 then (k : Int) + n else k)) && decide ((if (k : Int) < 0 then (k : Int) + n else k) < (n : Int))) = true then some (if (k : Int) < 0 then (k : Int) + n else k).toNat else none) = some k
  rw [if_neg h1, if_pos h2]
  rfl
section
variable {X : Cx} {e : Expr} {te : TE} {Te : TEp}
def pPop (i : Nat) (Te : TEp) : TEp := fun ρ Q => match ρ[i]? with
  | some (some (.own a _)) => Te ρ fun y ρ1 => ∃ (xs1 : List D) (k : Nat) (v : D), ρ1[i]? = some (some (.own a xs1)) ∧ y = .int (k : Int) ∧ k < 1000000 ∧ xs1[k]? = some v ∧ Q v (ρ1.set i (some (.own a (xs1.eraseIdx k))))
  | _ => False
theorem ppe_pop (i : Nat) {x : Str} {p ap cp : Pos} (he : PPE X e te Te) (hN : X.N[i]? = some x := by rfl) (hv : Vis X.env.scope x := by first | exact Or.inl rfl | exact Or.inr (Or.inl rfl) | exact Or.inr (Or.inr rfl)) (hd : (x == ("__debug__" : Str)) = false := by decide)
    (hcd : (x == ("__classdict__" : Str)) = false := by decide)
    (hbase : attributeBase (.Name x p) "pop" X.env (eval (.Name x p) X.env) = eval (.Name x p) X.env := by rfl)
    (hfew : ((backTo cp (starEach [e] X.env)).all (fun x => !x.1) && (backToKw cp (keywordEach [] X.env)).all (fun x => x.1.isSome)
      && decide ([e].length + ([] : List Keyword).length + (if ([] : List Keyword).isEmpty then 0 else 1) < 30)) = true := by rfl)
    (hline : (ap.endLine == cp.line) = true := by rfl) (hs : starEach [e] X.env = (false, eval e X.env) :: starEach [] X.env := by rfl) :
    PPE X (.Call (.Attribute (.Name x p) "pop" ap) [e] [] cp) (tBM X.K "list" rPopAt (tVar i) (tCons te tNil)) (pPop i Te) := ⟨pe_bm PySem.F.plainAttrs_list PySem.F.slot_list_pop PySem.F.type_list_pop mt_popAt (pe_var hN hv hd hcd) (pa_cons he.pe pa_nil hs) hbase hfew hline hs rfl, fun G F H σ ρ Q R S hT k => by
  unfold pPop at hT
  split at hT
  · rename_i a xs e0
    obtain ⟨h1, h2, h3, vs, h4, h5⟩ := S.own i a xs e0
    refine ⟨.ref a, h1, .inl ⟨rfl, _, SqL.of h4⟩, he.snd G F H σ ρ _ _ S hT fun y dy F1 H1 ρ1 u1 S1 r1 q1 => ?_⟩
    obtain ⟨xs1, j, v, e1, rfl, hj, e2, q⟩ := q1
    obtain ⟨g1, g2, g3, ws, g4, g5⟩ := S1.own i a xs1 e1
    cases r1
    obtain ⟨w, hw, rw'⟩ := g5.get e2
    exact ⟨a, ws, j, j, w, rfl, rfl, g4, by omega, by omega, seqIndex_nat (lt_of_get hw), hw, k w v F1 _ _ u1 (S1.mut e1 (g5.eraseIdx j)) rw' q⟩
  · exact hT.elim⟩
end
section
variable {X : Cx} {e : Expr} {te : TE} {Te : TEp} {pos : Pos}
def pAugI (i : Nat) (f : Int → Int → Int) (Te : TEp) : TSp := fun P ρ => ∃ a : Int, ρ[i]? = some (some (.val (.int a))) ∧ Te ρ fun d ρ1 => match d with
  | .int b => P.nx (ρ1.set i (some (.val (.int (f a b)))))
  | _ => False
theorem snd_aug {K : PySem.W.Frag} {i : Nat} {f : Int → Int → Int} (he : SndE K te Te) : SndS K (tAug i te (ipI f)) (pAugI i f Te) := fun G F H σ ρ P D S h r => by
  obtain ⟨a, e0, h⟩ := h
  obtain ⟨v, h1, r1⟩ := S.val i _ e0
  cases r1
  refine ⟨_, h1, he G F H σ ρ _ _ S h fun w d F1 H1 ρ1 u1 S1 r2 q => ?_⟩
  cases r2 with
  | int b => exact ⟨a, b, rfl, rfl, r.nx F1 H1 _ _ u1 (S1.setVal i (.int _)) q⟩
  | _ => exact q.elim
theorem pps_augAdd {i : Nat} {x : Str} {pos' : Pos} (hN : X.N.Nodup) (he : PPE X e te Te) (hi : X.N[i]? = some x := by rfl) (hx : Loc X.env.scope x := by first | exact Or.inl rfl | exact Or.inr rfl) (hf : X.fn x = true ∨ X.env.scope.names.lookup x = some .local := by first | exact .inl rfl | exact .inr rfl | assumption) :
    PPS X (.AugAssign (.Name x pos') .Add e pos) (tAug i te (ipI fun i j => i + j)) (pAugI i (fun i j => i + j) Te) := ⟨ps_aug hN hi hx he.pe ip_add hf, snd_aug he.snd⟩
end
end Pl
namespace Pl
open PySem PySem.Spec PyProof.Rows L2
variable [TJ]
section
variable {X : Cx} {e : Expr} {te : TE} {Te : TEp} {pos : Pos}
def pAdr (i : Nat) : TEp := fun ρ Q => ∃ (a : Addr) (xs : List D), ρ[i]? = some (some (.own a xs)) ∧ Q (.adr a) ρ
theorem ppe_adr (i : Nat) {x : Str} (hN : X.N[i]? = some x := by rfl) (hv : Vis X.env.scope x := by first | exact Or.inl rfl | exact Or.inr (Or.inl rfl) | exact Or.inr (Or.inr rfl)) (hd : (x == ("__debug__" : Str)) = false := by decide)
    (hcd : (x == ("__classdict__" : Str)) = false := by decide) : PPE X (.Name x pos) (tVar i) (pAdr i) := ⟨pe_var hN hv hd hcd, fun G F H σ ρ Q R S hT k => by
  obtain ⟨a, xs, e, q⟩ := hT
  exact ⟨.ref a, (S.own i a xs e).1, k _ _ F H ρ (.refl _ _) S (.adr a) q⟩⟩
def pAppendA (i : Nat) (js : List Nat) (Te : TEp) : TSp := fun P ρ => ∃ a : Addr, ρ[i]? = some (some (.val (.adr a))) ∧ (∃ j ∈ js, ∃ xs, ρ[j]? = some (some (.own a xs))) ∧ Te ρ fun y ρ1 => ∃ (j : Nat) (xs1 : List D), j ∈ js ∧ ρ1[j]? = some (some (.own a xs1)) ∧ xs1.length < sizeLine ∧ P.nx (ρ1.set j (some (.own a (xs1 ++ [y]))))
theorem pps_appendA (i : Nat) (js : List Nat) {x : Str} {p ap cp : Pos} (he : PPE X e te Te) (hN : X.N[i]? = some x := by rfl) (hv : Vis X.env.scope x := by first | exact Or.inl rfl | exact Or.inr (Or.inl rfl) | exact Or.inr (Or.inr rfl)) (hd : (x == ("__debug__" : Str)) = false := by decide)
    (hcd : (x == ("__classdict__" : Str)) = false := by decide)
    (hbase : attributeBase (.Name x p) "append" X.env (eval (.Name x p) X.env) = eval (.Name x p) X.env := by rfl)
    (hfew : ((backTo cp (starEach [e] X.env)).all (fun x => !x.1) && (backToKw cp (keywordEach [] X.env)).all (fun x => x.1.isSome)
      && decide ([e].length + ([] : List Keyword).length + (if ([] : List Keyword).isEmpty then 0 else 1) < 30)) = true := by rfl)
    (hline : (ap.endLine == cp.line) = true := by rfl) (hs : starEach [e] X.env = (false, eval e X.env) :: starEach [] X.env := by rfl)
    (hsw : swapsWith (.Call (.Attribute (.Name x p) "append" ap) [e] [] cp) none pos.line X.env = pure false := by rfl) :
    PPS X (.Expr (.Call (.Attribute (.Name x p) "append" ap) [e] [] cp) pos) (tDrop (tBM X.K "list" rAppend (tVar i) (tCons te tNil))) (pAppendA i js Te) := ⟨ps_expr (pe_bm PySem.F.plainAttrs_list PySem.F.slot_list_append PySem.F.type_list_append mt_append (pe_var hN hv hd hcd) (pa_cons he.pe pa_nil hs) hbase hfew hline hs rfl) hsw, fun G F H σ ρ P D S hT r => by
  obtain ⟨a, e0, ⟨j0, hj0, xs0, e00⟩, hT⟩ := hT
  obtain ⟨v, h1, r0⟩ := S.val i _ e0
  cases r0
  obtain ⟨_, _, _, vs0, h40, _⟩ := S.own j0 a xs0 e00
  refine ⟨.ref a, h1, .inl ⟨rfl, _, SqL.of h40⟩, he.snd G F H σ ρ _ _ S hT fun y dy F1 H1 ρ1 u1 S1 r1 q1 => ?_⟩
  obtain ⟨j, xs1, _, e1, hz, q⟩ := q1
  obtain ⟨g1, g2, g3, ws, g4, g5⟩ := S1.own j a xs1 e1
  exact ⟨a, ws, y, rfl, rfl, g4, by rw [g5.length]; exact hz, r.nx F1 _ _ _ u1 (S1.mut e1 (g5.append (.one r1))) q⟩⟩
end
abbrev TCs := Ro → (List Cell → Ro → Prop) → Prop
def CellOk (K : PySem.W.Frag) (G F H : Hp) (ρ : Ro) (v : V) (c : Cell) : Prop := match c with
  | .val d => Rep K F v d
  | .own p xs => v = .ref p ∧ F p = none ∧ G p = none ∧ NotOwn ρ p ∧ ∃ us, H p = some (.lst us) ∧ Reps K F us xs
  | .box _ => False
def CellsOk (K : PySem.W.Frag) (G F H : Hp) (ρ : Ro) : List V → List Cell → Prop
  | [], [] => True
  | v :: vs, c :: cs => CellOk K G F H ρ v c ∧ CellsOk K G F H ρ vs cs ∧ ∀ p xs, c = .own p xs → ∀ q ys, Cell.own q ys ∈ cs → q ≠ p
  | _, _ => False
def SndCs (K : PySem.W.Frag) (t : TA) (T : TCs) : Prop := ∀ (G F H : Hp) (σ : L2.St) (ρ : Ro) (Q : List Cell → Ro → Prop) (R : List V → Hp → Prop), Sim K G F H σ ρ → T ρ Q →
  (∀ vs cs F' H' ρ', Up G F F' → Sim K G F' H' σ ρ' → CellsOk K G F' H' ρ' vs cs → Q cs ρ' → R vs H') → t σ H R
structure PPCs (X : Cx) (es : List Expr) (t : TA) (T : TCs) : Prop where
  pa : PA X es t
  snd : SndCs X.K t T
theorem CellsOk.gone {K : PySem.W.Frag} {G F H : Hp} {ρ : Ro} {p : Addr} {o : HO} : ∀ {vs : List V} {cs : List Cell}, CellsOk K (upd G p o) F H ρ vs cs → ∀ q ys, Cell.own q ys ∈ cs → q ≠ p
  | [], [], _, q, ys, h => by simp at h
  | v :: vs, c :: cs, g, q, ys, h => by
    rcases List.mem_cons.mp h with e | h
    · subst e
      intro z
      have := g.1.2.2.1
      rw [z, upd_same] at this
      cases this
    · exact CellsOk.gone g.2.1 q ys h
  | [], _ :: _, g, _, _, _ => g.elim
  | _ :: _, [], g, _, _, _ => g.elim
theorem CellsOk.less {K : PySem.W.Frag} {G F H : Hp} {ρ : Ro} {p : Addr} {o : HO} : ∀ {vs : List V} {cs : List Cell}, CellsOk K (upd G p o) F H ρ vs cs → CellsOk K G F H ρ vs cs
  | [], [], _ => trivial
  | v :: vs, c :: cs, g => by
    refine ⟨?_, CellsOk.less g.2.1, g.2.2⟩
    cases c with
    | val d => exact g.1
    | own q xs =>
      obtain ⟨h1, h2, h3, h4⟩ := g.1
      have n : q ≠ p := fun z => by rw [z, upd_same] at h3; cases h3
      exact ⟨h1, h2, by rw [upd_ne n] at h3; exact h3, h4⟩
    | box s => exact g.1
  | [], _ :: _, g => g.elim
  | _ :: _, [], g => g.elim
section
variable {X : Cx} {e : Expr} {es : List Expr} {te : TE} {t : TA} {T : TCs} {Tc : TCp} {pos : Pos}
def pNilC : TCs := fun ρ Q => Q [] ρ
def pConsC (Tc : TCp) (T : TCs) : TCs := fun ρ Q => Tc ρ fun c ρ1 => match c with
  | .val d => T ρ1 fun cs ρ2 => Q (.val d :: cs) ρ2
  | .own p xs => T ρ1 fun cs ρ2 => Q (.own p xs :: cs) ρ2
  | .box _ => False
theorem ppcs_nil : PPCs X [] tNil pNilC := ⟨pa_nil, fun G F H σ ρ Q R S hT k => k [] [] F H ρ (.refl _ _) S trivial hT⟩
theorem ppcs_cons (h1 : PPC X e te Tc) (h2 : PPCs X es t T) (hs : starEach (e :: es) X.env = (false, eval e X.env) :: starEach es X.env := by rfl) : PPCs X (e :: es) (tCons te t) (pConsC Tc T) := ⟨pa_cons h1.pe h2.pa hs, fun G F H σ ρ Q R S hT k =>
  h1.snd G F H σ ρ _ _ S hT fun v c F1 H1 ρ1 u1 S1 q1 => by
    cases c with
    | val d =>
      have r := S1.lastVal
      refine h2.snd G F1 H1 σ ρ1 _ _ S1.drop q1 fun vs cs F2 H2 ρ2 u2 S2 o2 q2 => k (v :: vs) (.val d :: cs) F2 H2 ρ2 (u1.trans u2) S2 ⟨r.mono u2.ex, o2, fun p xs z => by cases z⟩ q2
    | own p xs =>
      obtain ⟨rfl, h2', h3, h4, us, h5, h6⟩ := S1.lastOwn
      have S0 := S1.drop
      have SG : Sim X.K (upd G p (.lst us)) F1 H1 σ ρ1 := by
        refine ⟨S0.hF, S0.hG.guard h5, S0.len, S0.val, fun i b ys q => ?_, S0.ne, S0.bx.guard h4.2⟩
        · obtain ⟨g1, g2, g3, g4⟩ := S0.own i b ys q
          have n : b ≠ p := fun z => by subst z; exact h4.1 i ys q
          exact ⟨g1, g2, by rw [upd_ne n]; exact g3, g4⟩
      refine h2.snd (upd G p (.lst us)) F1 H1 σ ρ1 _ _ SG q1 fun vs cs F2 H2 ρ2 u2 S2 o2 q2 => ?_
      have hp2 : H2 p = some (.lst us) := S2.hG p _ upd_same
      have fp2 : F2 p = none := u2.isNone h2' upd_same
      have np2 : NotOwn ρ2 p := ⟨fun i ys q => (by
        have := (S2.own i p ys q).2.2.1
        rw [upd_same] at this; cases this), S2.bx.notG upd_same⟩
      have up2 : Up G F1 F2 := u2.less (same_new h3)
      have SF : Sim X.K G F2 H2 σ ρ2 := by
        refine ⟨S2.hF, S2.hG.less (same_new h3), S2.len, S2.val, fun i b ys q => ?_, S2.ne, S2.bx.unguard (same_new h3)⟩
        obtain ⟨g1, g2, g3, g4⟩ := S2.own i b ys q
        have n : b ≠ p := fun z => by rw [z, upd_same] at g3; cases g3
        exact ⟨g1, g2, by rw [upd_ne n] at g3; exact g3, g4⟩
      refine k (.ref p :: vs) (.own p xs :: cs) F2 H2 ρ2 (u1.trans up2) SF ⟨⟨rfl, fp2, h3, np2, us, hp2, h6.mono u2.ex⟩, o2.less, fun q xs' z w ys hw => ?_⟩ q2
      cases z
      exact o2.gone w ys hw
    | box s => exact q1.elim⟩
theorem Sim.put {K : PySem.W.Frag} {G F H : Hp} {σ : L2.St} {ρ : Ro} {v : V} {c : Cell} (S : Sim K G F H σ ρ) (i : Nat) (h : CellOk K G F H ρ v c) : Sim K G F H (σ.set i (some v)) (ρ.set i (some c)) := by
  cases c with
  | val d => exact S.setVal i h
  | own p xs =>
    obtain ⟨rfl, h2, h3, h4, us, h5, h6⟩ := h
    exact S.setOwn i h5 h2 h3 h4 h6
  | box s => exact h.elim
theorem NotOwn.put {ρ : Ro} {p : Addr} {c : Cell} {i : Nat} (h : NotOwn ρ p) (hb : ∀ t, c ≠ .box t) (hc : ∀ q ys, c = .own q ys → p ≠ q) : NotOwn (ρ.set i (some c)) p := ⟨fun j ys e => (by
  by_cases hj : i = j
  · subst hj
    by_cases hi : i < ρ.length
    · rw [List.getElem?_set_self hi] at e
      cases e
      exact hc _ _ rfl rfl
    · rw [List.getElem?_eq_none (by simpa using hi)] at e; cases e
  · rw [List.getElem?_set_ne hj] at e; exact h.1 j ys e), fun m => h.2 (set_inbox (fun t z => hb t (Option.some.inj z)) m)⟩
theorem CellOk.put {K : PySem.W.Frag} {G F H : Hp} {ρ : Ro} {v : V} {c c' : Cell} {i : Nat} (h : CellOk K G F H ρ v c) (hb : ∀ t, c' ≠ .box t) (hc : ∀ p xs, c' = .own p xs → ∀ q ys, c = .own q ys → q ≠ p) : CellOk K G F H (ρ.set i (some c')) v c := by
  cases c with
  | val d => exact h
  | own p xs =>
    obtain ⟨h1, h2, h3, h4, h5⟩ := h
    exact ⟨h1, h2, h3, h4.put hb fun q ys e => hc q ys e p xs rfl, h5⟩
  | box s => exact h.elim
theorem CellOk.noBox {K : PySem.W.Frag} {G F H : Hp} {ρ : Ro} {v : V} {c : Cell} (h : CellOk K G F H ρ v c) : ∀ t, c ≠ .box t := fun t e => by subst e; exact h
theorem CellsOk.len {K : PySem.W.Frag} {G F H : Hp} {ρ : Ro} : ∀ {vs : List V} {cs : List Cell}, CellsOk K G F H ρ vs cs → vs.length = cs.length
  | [], [], _ => rfl
  | _ :: _, _ :: _, h => congrArg (· + 1) (CellsOk.len h.2.1)
  | [], _ :: _, h => h.elim
  | _ :: _, [], h => h.elim
theorem two_cells {f : Cell → Cell → Prop} : ∀ {cs : List Cell}, (match cs with | [x, y] => f x y | _ => False) → cs.length = 2
  | [], h => h.elim
  | [_], h => h.elim
  | [_, _], _ => rfl
  | _ :: _ :: _ :: _, h => h.elim
theorem three_cells {f : Cell → Cell → Cell → Prop} : ∀ {cs : List Cell}, (match cs with | [x, y, z] => f x y z | _ => False) → cs.length = 3
  | [], h => h.elim
  | [_], h => h.elim
  | [_, _], h => h.elim
  | [_, _, _], _ => rfl
  | _ :: _ :: _ :: _ :: _, h => h.elim
theorem len_two {α : Type} : ∀ {l : List α}, l.length = 2 → ∃ a b, l = [a, b]
  | [a, b], _ => ⟨a, b, rfl⟩
theorem len_three {α : Type} : ∀ {l : List α}, l.length = 3 → ∃ a b c, l = [a, b, c]
  | [a, b, c], _ => ⟨a, b, c, rfl⟩
def pParC (i j : Nat) (T : TCs) : TSp := fun P ρ => T ρ fun cs ρ1 => match cs with | [x, y] => P.nx ((ρ1.set i (some x)).set j (some y)) | _ => False
theorem pps_parC {i j : Nat} {x y : Str} {a b : Expr} {ta : TA} {px py pt : Pos} {kt k2 pt2} (hc : X.calm = true) (hN : X.N.Nodup) (ha : PPCs X [a, b] ta T) (hi : X.N[i]? = some x := by rfl) (hj : X.N[j]? = some y := by rfl) (hij : i ≠ j := by decide)
    (hx : X.env.scope.names.lookup x = some .local := by rfl) (hy : X.env.scope.names.lookup y = some .local := by rfl)
    (hw : swappedStores [.Tuple [.Name x px, .Name y py] kt pt] (.Tuple [a, b] k2 pt2) X.env = pure (some [x, y]) := by rfl)
    (hs : swapsWithSole [.Tuple [.Name x px, .Name y py] kt pt] (.Tuple [a, b] k2 pt2) pos.line X.env = pure false := by rfl) :
    PPS X (.Assign [.Tuple [.Name x px, .Name y py] kt pt] (.Tuple [a, b] k2 pt2) pos) (tPar i j ta) (pParC i j T) := ⟨ps_par hc hN hi hj hij hx hy ha.pa hw hs, fun G F H σ ρ P D S hT r =>
  ha.snd G F H σ ρ _ _ S hT fun vs cs F' H' ρ' u S' o q => by
    have l2 := two_cells q
    obtain ⟨c1, c2, rfl⟩ := len_two l2
    obtain ⟨v1, v2, rfl⟩ := len_two (o.len.trans l2)
    refine ⟨v1, v2, rfl, r.nx F' H' _ _ u ((S'.put i o.1).put j (o.2.1.1.put o.1.noBox fun p xs e w ys e2 => ?_)) q⟩
    subst e2
    exact o.2.2 p xs e w ys (by simp)⟩
def pParC3 (i j l : Nat) (T : TCs) : TSp := fun P ρ => T ρ fun cs ρ1 => match cs with | [x, y, z] => P.nx (((ρ1.set i (some x)).set j (some y)).set l (some z)) | _ => False
theorem pps_parC3 {i j l : Nat} {x y z : Str} {a b c : Expr} {ta : TA} {px py pz pt : Pos} {kt k2 pt2} (hc : X.calm = true) (hN : X.N.Nodup) (ha : PPCs X [a, b, c] ta T) (hi : X.N[i]? = some x := by rfl) (hj : X.N[j]? = some y := by rfl) (hl : X.N[l]? = some z := by rfl) (hij : i ≠ j := by decide) (hil : i ≠ l := by decide) (hjl : j ≠ l := by decide)
    (hx : X.env.scope.names.lookup x = some .local := by rfl) (hy : X.env.scope.names.lookup y = some .local := by rfl) (hz : X.env.scope.names.lookup z = some .local := by rfl)
    (hw : swappedStores [.Tuple [.Name x px, .Name y py, .Name z pz] kt pt] (.Tuple [a, b, c] k2 pt2) X.env = pure (some [x, y, z]) := by rfl)
    (hs : swapsWithSole [.Tuple [.Name x px, .Name y py, .Name z pz] kt pt] (.Tuple [a, b, c] k2 pt2) pos.line X.env = pure false := by rfl) :
    PPS X (.Assign [.Tuple [.Name x px, .Name y py, .Name z pz] kt pt] (.Tuple [a, b, c] k2 pt2) pos) (tPar3 i j l ta) (pParC3 i j l T) := ⟨ps_par3 hc hN hi hj hl hij hil hjl hx hy hz ha.pa hw hs, fun G F H σ ρ P D S hT r =>
  ha.snd G F H σ ρ _ _ S hT fun vs cs F' H' ρ' u S' o q => by
    have l3 := three_cells q
    obtain ⟨c1, c2, c3, rfl⟩ := len_three l3
    obtain ⟨v1, v2, v3, rfl⟩ := len_three (o.len.trans l3)
    refine ⟨v1, v2, v3, rfl, r.nx F' H' _ _ u (((S'.put i o.1).put j (o.2.1.1.put o.1.noBox fun p xs e w ys e2 => ?_)).put l ((o.2.1.2.1.1.put o.1.noBox fun p xs e w ys e2 => ?_).put o.2.1.1.noBox fun p xs e w ys e2 => ?_)) q⟩
    · subst e2; exact o.2.2 p xs e w ys (by simp)
    · subst e2; exact o.2.2 p xs e w ys (by simp)
    · subst e2; exact o.2.1.2.2 p xs e w ys (by simp)⟩
end
end Pl
namespace Pl
open PySem PySem.Spec PyProof.Rows L2
variable [TJ]
section
variable {X : Cx} {a b : Expr} {ta tb : TE} {Ta Tb : TEp} {pos : Pos}
def rMulS : R2 := fun x y H Q => ∃ i j, x = .str i ∧ y = .int j ∧ MulOk i j ∧ Q (.str (Txt.mul i j)) H
theorem op_mulS : OpR X (binaryOp .Mult) rMulS := by
  intro pins s σ H x y v u Q I rx ry h
  obtain ⟨i, j, rfl, rfl, hz, q⟩ := h
  obtain ⟨t, rfl⟩ := rx
  obtain ⟨t', rfl⟩ := ry
  exact PySem.SB.mul hz fun t' k => ⟨.str (Txt.mul i j), H, I.tok _, ⟨_, rfl⟩, q⟩
def fMulS : F2 := fun x y Q => match x, y with
  | .str i, .int j => MulOk i j ∧ Q (.str (Txt.mul i j))
  | _, _ => False
theorem ppe_mulS (ha : PPE X a ta Ta) (hb : PPE X b tb Tb) : PPE X (.BinOp a .Mult b pos) (tOp rMulS ta tb) (pOp fMulS Ta Tb) := ppe_op op_mulS (fun F H x y dx dy Q R hs rx ry hf k => by
  cases rx with
  | str i =>
    cases ry with
    | int j => exact ⟨i, j, rfl, rfl, hf.1, k _ _ _ _ (.old (.str _)) hf.2⟩
    | _ => exact hf.elim
  | _ => exact hf.elim) ha hb
theorem mulOk_small {x : Str} {n : Int} (hx : x.length ≤ 10) (h0 : 0 ≤ n) (h1 : n ≤ 1000) : MulOk x n := by
  have hm : (x.length : Int) * n ≤ 10 * 1000 := Int.mul_le_mul (by omega) h1 h0 (by decide)
  refine ⟨by simp; omega, fun h _ => ?_, fun h _ => ?_⟩
  · have : (x.length : Int) ≤ (2 ^ 63 - 1) / n := Int.le_ediv_of_mul_le (by omega) (by omega)
    omega
  · unfold Builtin.Str.tooLong
    have h2 : x.length * n.toNat ≤ 10 * 1000 := Nat.mul_le_mul hx (by omega)
    rw [sizeLine_eq]
    simp
    omega
end
end Pl
namespace Pl
open PySem PySem.Spec PyProof.Rows L2
variable [TJ]
section
variable {X : Cx} {a b : Expr} {ta tb : TE} {Ta Tb : TEp} {pos : Pos}
def pCatO (Ta Tb : TEp) : TCp := fun ρ Q => Ta ρ fun x ρ1 => Tb ρ1 fun y ρ2 => match x, y with
  | .lst xs, .lst ys => xs.length + ys.length ≤ sizeLine ∧ ∀ p, Q (.own p (xs ++ ys)) ρ2
  | _, _ => False
theorem ppc_cat (ha : PPE X a ta Ta) (hb : PPE X b tb Tb) : PPC X (.BinOp a .Add b pos) (tOp (rAddA X.K) ta tb) (pCatO Ta Tb) := ⟨(ppe_add ha hb).pe, fun G F H σ ρ Q R S hT k =>
  ha.snd G F H σ ρ _ _ S hT fun v d F1 H1 ρ1 u1 S1 r1 q1 => hb.snd G F1 H1 σ ρ1 _ _ S1 q1 fun w e F2 H2 ρ2 u2 S2 r2 q2 => by
    have r1' := r1.mono u2.ex
    cases r1' with
    | lst h1 s1 =>
      cases r2 with
      | lst h2 s2 => exact .inr (.inl ⟨_, _, _, _, rfl, rfl, S2.hF _ _ h1, S2.hF _ _ h2, by rw [s1.length, s2.length]; exact q2.1, fun p hp => k _ _ _ _ ρ2 (u1.trans u2) (S2.newOwn hp (s1.append s2)) (q2.2 p)⟩)
      | _ => exact q2.elim
    | _ => exact q2.elim⟩
end
end Pl
namespace Pl
open PySem PySem.Spec PyProof.Rows L2
abbrev N_almanac_of : List Str := [("cuts" : Str), ("fills" : Str), ("order" : Str), ("winds" : Str), ("cut" : Str), ("fill" : Str), ("sign" : Str)]
def T_almanac_of : TSp :=
  (pSeq (pSet 3 (pLstO pNil))
    (pSeq (pSet 4 (pVal (pC (.int 0))))
    (pSeq (pSet 5 (pVal (pC (.int 0))))
    (pSeq (pFor (jStr (pVar 2)) (hName 6)
    (pIfS (pTest (pOp fEq (pVar 6) (pC (.str "c"))))
    (pSeq (pAppend 3 (pTup (pCons (pC (.str "cut")) (pCons (pIxO 0 (pVar 4)) pNil))))
    (pAugI 4 (fun i j => i + j) (pC (.int 1))))
    (pSeq (pAppend 3 (pTup (pCons (pC (.str "fill")) (pCons (pIxO 1 (pVar 5)) pNil))))
    (pAugI 5 (fun i j => i + j) (pC (.int 1))))))
    (pRet (pMove 3))))))
abbrev N_are_contrary : List Str := [("one" : Str), ("other" : Str), ("of_cut" : Str), ("of_fill" : Str)]
def T_are_contrary : TSp :=
  (pSeq (pIfS (pTest (pOp fEq (pIxO 0 (pC (.int 0))) (pIxO 1 (pC (.int 0)))))
    (pRet (pVal (pC (.bl false))))
    pNext)
    (pSeq (pAsg (pIf (pTest (pOp fEq (pIxO 0 (pC (.int 0))) (pC (.str "cut")))) (pTup (pCons (pVar 0) (pCons (pVar 1) pNil))) (pTup (pCons (pVar 1) (pCons (pVar 0) pNil)))) (hTup 2 (hCons (hName 2) (hCons (hName 3) hNil))))
    (pRet (pVal (pAndV (pOp fLe (pIxO 3 (pC (.int 1))) (pIxO 2 (pC (.int 1)))) (pOp fLe (pIxO 2 (pC (.int 2))) (pIxO 3 (pC (.int 2)))))))))
abbrev N_first_clash : List Str := [("words" : Str), ("one" : Str), ("other" : Str)]
def T_first_clash (g_are_contrary : FA) : TSp :=
  (pSeq (pFor (jRng1 (pCons (pLenO 0) pNil)) (hName 1)
    (pFor (jRng2 (pCons (pOp fAdd (pVar 1) (pC (.int 1))) (pCons (pLenO 0) pNil))) (hName 2)
    (pIfS (pTest (pFrz (pCallA 2 g_are_contrary (pCons (pIxO 0 (pVar 1)) (pCons (pIxO 0 (pVar 2)) pNil)))))
    (pRet (pVal (pTup (pCons (pVar 1) (pCons (pVar 2) pNil)))))
    pNext)))
    (pRet (pVal (pC .non))))
abbrev N_refuse_clash : List Str := [("words" : Str), ("places" : Str)]
def T_refuse_clash (g_first_clash : FA) : TSp :=
  (pSeq (pSet 1 (pCallA 1 g_first_clash (pCons (pVar 0) pNil)))
    (pIfS (pTest (pOp fNotN (pVar 1) (pC .non)))
    pNever
    pNext))
abbrev N_least_ahead : List Str := [("words" : Str), ("fill" : Str), ("word" : Str), ("cut" : Str), ("at" : Str)]
def T_least_ahead : TSp :=
  (pRet (pVal (pDflt max (pLc (jSeq (pVar 0)) (hTup 3 (hCons (hName 2) (hCons (hName 3) (hCons (hName 4) hNil)))) (pAnd (pTest (pOp fEq (pVar 2) (pC (.str "cut")))) (pTest (pOp fLe (pVar 4) (pVar 1)))) (pOp fAdd (pVar 3) (pC (.int 1))) [2, 3, 4]) (pC (.int 0)))))
abbrev N_most_ahead : List Str := [("cuts" : Str), ("words" : Str), ("fill" : Str), ("word" : Str), ("cut" : Str), ("at" : Str)]
def T_most_ahead : TSp :=
  (pRet (pVal (pDflt min (pLc (jSeq (pVar 1)) (hTup 3 (hCons (hName 3) (hCons (hName 4) (hCons (hName 5) hNil)))) (pAnd (pTest (pOp fEq (pVar 3) (pC (.str "fill")))) (pTest (pOp fGe (pVar 5) (pVar 2)))) (pVar 4) [3, 4, 5]) (pLenO 0))))
abbrev N_bounds : List Str := [("cuts" : Str), ("fills" : Str), ("words" : Str), ("fill" : Str)]
def T_bounds (g_refuse_clash : FA) (g_least_ahead : FA) (g_most_ahead : FA) : TSp :=
  (pSeq (pDrop (pFrz (pCallA 1 g_refuse_clash (pCons (pVar 2) pNil))))
    (pRet (pLcO (jRng1 (pCons (pLenO 1) pNil)) (hName 3) pYes (pTup (pCons (pFrz (pCallA 2 g_least_ahead (pCons (pVar 2) (pCons (pVar 3) pNil)))) (pCons (pFrz (pCallA 3 g_most_ahead (pCons (pVar 0) (pCons (pVar 2) (pCons (pVar 3) pNil))))) pNil))) [3])))
abbrev N_order_with : List Str := [("ahead" : Str), ("many" : Str), ("parts" : Str), ("done" : Str), ("cuts" : Str)]
def T_order_with : TSp :=
  (pSeq (pSet 2 (pLstO pNil))
    (pSeq (pSet 3 (pVal (pC (.int 0))))
    (pSeq (pFor (jSeq (pVar 0)) (hName 4)
    (pSeq (pAppend 2 (pOp fAdd (pOp fMulS (pC (.str "c")) (pOp fSub (pVar 4) (pVar 3))) (pC (.str "f"))))
    (pSet 3 (pVal (pVar 4)))))
    (pSeq (pAppend 2 (pOp fMulS (pC (.str "c")) (pOp fSub (pVar 1) (pVar 3))))
    (pRet (pVal (pJoin (pC (.str "")) (pVar 2))))))))
abbrev N_least_order : List Str := [("cuts" : Str), ("fills" : Str), ("words" : Str), ("least" : Str), ("most" : Str)]
def T_least_order (g_bounds : FA) (g_order_with : FA) : TSp :=
  (pRet (pCallA 2 g_order_with (pCons (pLc (jSeq (pFrz (pCallA 3 g_bounds (pCons (pVar 0) (pCons (pVar 1) (pCons (pVar 2) pNil)))))) (hTup 2 (hCons (hName 3) (hCons (hName 4) hNil))) pYes (pVar 4) [3, 4]) (pCons (pLenO 0) pNil))))
abbrev N_greatest_order : List Str := [("cuts" : Str), ("fills" : Str), ("words" : Str), ("least" : Str), ("most" : Str)]
def T_greatest_order (g_bounds : FA) (g_order_with : FA) : TSp :=
  (pRet (pCallA 2 g_order_with (pCons (pLc (jSeq (pFrz (pCallA 3 g_bounds (pCons (pVar 0) (pCons (pVar 1) (pCons (pVar 2) pNil)))))) (hTup 2 (hCons (hName 3) (hCons (hName 4) hNil))) pYes (pVar 3) [3, 4]) (pCons (pLenO 0) pNil))))
abbrev N_may_stand : List Str := [("dune" : Str), ("cuts" : Str), ("fills" : Str), ("words" : Str), ("least" : Str), ("greatest" : Str)]
def T_may_stand (g_behind : FA) (g_almanac_of : FA) (g_least_order : FA) (g_greatest_order : FA) : TSp :=
  (pSeq (pSet 4 (pCallA 3 g_almanac_of (pCons (pVar 1) (pCons (pVar 2) (pCons (pFrz (pCallA 3 g_least_order (pCons (pVar 1) (pCons (pVar 2) (pCons (pVar 3) pNil))))) pNil)))))
    (pSeq (pSet 5 (pCallA 3 g_almanac_of (pCons (pVar 1) (pCons (pVar 2) (pCons (pFrz (pCallA 3 g_greatest_order (pCons (pVar 1) (pCons (pVar 2) (pCons (pVar 3) pNil))))) pNil)))))
    (pRet (pVal (pTup (pCons (pFrz (pCallA 2 g_behind (pCons (pVar 0) (pCons (pVar 4) pNil)))) (pCons (pFrz (pCallA 2 g_behind (pCons (pVar 0) (pCons (pVar 5) pNil)))) pNil)))))))
abbrev N_sure_posts : List Str := [("dune" : Str), ("cuts" : Str), ("fills" : Str), ("words" : Str), ("least" : Str), ("greatest" : Str), ("post" : Str), ("height" : Str)]
def T_sure_posts (g_may_stand : FA) : TSp :=
  (pSeq (pAsg (pFrz (pCallA 4 g_may_stand (pCons (pVar 0) (pCons (pVar 1) (pCons (pVar 2) (pCons (pVar 3) pNil)))))) (hTup 2 (hCons (hName 4) (hCons (hName 5) hNil))))
    (pRet (pLcO (jE (pCons (pVar 4) pNil)) (hTup 2 (hCons (hName 6) (hCons (hName 7) hNil))) (pTest (pOp fEq (pVar 7) (pIxO 5 (pVar 6)))) (pVar 6) [6, 7])))
abbrev N__law_books : List Str := [("_law_box_here" : Str), ("_law_size" : Str), ("_law_cuts" : Str), ("_law_fills" : Str), ("_law_way" : Str), ("_law_slope_here" : Str), ("_law_turn" : Str), ("_law_book" : Str)]
def T__law_books (g__law_take : FB) (g__law_slope : FB) : TSp :=
  (pSeq (pParC3 2 3 4 (pConsC (pLstO pNil) (pConsC (pLstO pNil) (pConsC (pCallB 0 2 g__law_take (pCons (pC (.int 4)) pNil)) pNilC))))
    (pSeq (pIfS (pTest (pOp fEq (pVar 4) (pC (.int 0))))
    (pSeq (pSet 5 (pVal (pOp fAdd (pC (.int 40)) (pFrz (pCallB 0 2 g__law_take (pCons (pC (.int 60)) pNil))))))
    (pSeq (pFor (jRng1 (pCons (pFrz (pCallB 0 2 g__law_take (pCons (pOp fAdd (pOp fMulI (pC (.int 2)) (pVar 1)) (pC (.int 1))) pNil))) pNil)) (hName 6)
    (pSeq (pSet 7 (pVal (pOp fIx (pLst (pCons (pAdr 2) (pCons (pAdr 3) pNil))) (pOp fMod (pOp fAdd (pVar 6) (pOp fMulI (pFrz (pCallB 0 2 g__law_take (pCons (pC (.int 2)) pNil))) (pFrz (pCallB 0 2 g__law_take (pCons (pC (.int 2)) pNil))))) (pC (.int 2))))))
    (pSeq (pAppendA 7 [2, 3] (pVar 5))
    (pSet 5 (pVal (pCB fMax2 (pCons (pC (.int 0)) (pCons (pOp fSub (pOp fSub (pVar 5) (pC (.int 1))) (pFrz (pCallB 0 2 g__law_take (pCons (pC (.int 9)) pNil)))) pNil))))))))
    (pRet (pVal (pTup (pCons (pSl (pVar 2) pNoPart (pPart (pVar 1))) (pCons (pSl (pVar 3) pNoPart (pPart (pVar 1))) pNil)))))))
    pNext)
    (pSeq (pFor (jSeq (pTup (pCons (pAdr 2) (pCons (pAdr 3) pNil)))) (hName 7)
    (pFor (jRng1 (pCons (pFrz (pCallB 0 2 g__law_take (pCons (pOp fAdd (pVar 1) (pC (.int 1))) pNil))) pNil)) (hName 6)
    (pAppendA 7 [2, 3] (pIf (pTest (pOp fLt (pVar 4) (pC (.int 3)))) (pFrz (pCallB 0 1 g__law_slope pNil)) (pFrz (pCallB 0 2 g__law_take (pCons (pC (.int 3)) pNil)))))))
    (pRet (pVal (pTup (pCons (pVar 2) (pCons (pVar 3) pNil))))))))
abbrev N__law_almanac : List Str := [("_law_cuts" : Str), ("_law_fills" : Str), ("_law_order_here" : Str), ("_law_left" : Str), ("_law_right_here" : Str), ("_law_told_here" : Str), ("_law_letter" : Str)]
def T__law_almanac : TSp :=
  (pSeq (pParC3 3 4 5 (pConsC (pLstCO (pCons (pVar 0) pNil)) (pConsC (pLstCO (pCons (pVar 1) pNil)) (pConsC (pLstO pNil) pNilC))))
    (pSeq (pFor (jStr (pVar 2)) (hName 6)
    (pAppend 5 (pIf (pTest (pOp fEq (pVar 6) (pC (.str "c")))) (pTup (pCons (pC (.str "cut")) (pCons (pPop 3 (pC (.int 0))) pNil))) (pTup (pCons (pC (.str "fill")) (pCons (pPop 4 (pC (.int 0))) pNil))))))
    (pRet (pMove 5))))
abbrev N__law_order : List Str := [("_law_box_here" : Str), ("_law_cuts" : Str), ("_law_fills" : Str), ("_law_letters" : Str), ("_law_told_here" : Str), ("_law_turn" : Str)]
def T__law_order (g__law_take : FB) : TSp :=
  (pSeq (pParC 3 4 (pConsC (pCatO (pOp fRep (pLst (pCons (pC (.str "c")) pNil)) (pVar 1)) (pOp fRep (pLst (pCons (pC (.str "f")) pNil)) (pVar 2))) (pConsC (pVal (pC (.str ""))) pNilC)))
    (pSeq (pFor (jRng1 (pCons (pOp fAdd (pVar 1) (pVar 2)) pNil)) (hName 5)
    (pSet 4 (pVal (pOp fAdd (pVar 4) (pPop 3 (pFrz (pCallB 0 2 g__law_take (pCons (pLenO 3) pNil))))))))
    (pRet (pMove 4))))
abbrev N__law_has : List Str := [("_law_order_here" : Str), ("_law_word" : Str), ("_law_kind" : Str), ("_law_cut" : Str), ("_law_fill" : Str), ("_law_k" : Str), ("_law_letter" : Str), ("_law_spots" : Str), ("_law_others" : Str)]
def T__law_has : TSp :=
  (pSeq (pAsg (pVar 1) (hTup 3 (hCons (hName 2) (hCons (hName 3) (hCons (hName 4) hNil)))))
    (pSeq (pSet 7 (pVal (pLc (jES (pCons (pVar 0) pNil)) (hTup 2 (hCons (hName 5) (hCons (hName 6) hNil))) (pTest (pOp fEq (pVar 6) (pC (.str "c")))) (pVar 5) [5, 6])))
    (pSeq (pSet 8 (pVal (pLc (jES (pCons (pVar 0) pNil)) (hTup 2 (hCons (hName 5) (hCons (hName 6) hNil))) (pTest (pOp fEq (pVar 6) (pC (.str "f")))) (pVar 5) [5, 6])))
    (pRet (pVal (pOp fEq (pOp fLt (pIxO 7 (pVar 3)) (pIxO 8 (pVar 4))) (pOp fEq (pVar 2) (pC (.str "cut")))))))))
abbrev N__law_words : List Str := [("_law_box_here" : Str), ("_law_order_here" : Str), ("_law_size" : Str), ("_law_cuts" : Str), ("_law_fills" : Str), ("_law_told_here" : Str), ("_law_astray" : Str), ("_law_turn" : Str), ("_law_word" : Str)]
def T__law_words (g__law_take : FB) (g__law_has : FA) : TSp :=
  (pSeq (pPar 3 4 (pCons (pCount (pVar 1) (pC (.str "c"))) (pCons (pCount (pVar 1) (pC (.str "f"))) pNil)))
    (pSeq (pParC 5 6 (pConsC (pLstO pNil) (pConsC (pVal (pOp fEq (pFrz (pCallB 0 2 g__law_take (pCons (pC (.int 3)) pNil))) (pC (.int 0)))) pNilC)))
    (pSeq (pFor (jRng1 (pCons (pOp fMulI (pFrz (pCallB 0 2 g__law_take (pCons (pOp fAdd (pVar 2) (pC (.int 1))) pNil))) (pCB fInt1 (pCons (pAndV (pOp fGt (pVar 3) (pC (.int 0))) (pOp fGt (pVar 4) (pC (.int 0)))) pNil))) pNil)) (hName 7)
    (pSeq (pSet 8 (pVal (pTup (pCons (pC (.str "cut")) (pCons (pFrz (pCallB 0 2 g__law_take (pCons (pVar 3) pNil))) (pCons (pFrz (pCallB 0 2 g__law_take (pCons (pVar 4) pNil))) pNil))))))
    (pSeq (pIfS (pOr (pNot (pTest (pFrz (pCallA 2 g__law_has (pCons (pVar 1) (pCons (pVar 8) pNil)))))) (pAnd (pTest (pVar 6)) (pTest (pOp fEq (pFrz (pCallB 0 2 g__law_take (pCons (pC (.int 4)) pNil))) (pC (.int 0))))))
    (pSet 8 (pVal (pTup (pCons (pC (.str "fill")) (pCons (pIxO 8 (pC (.int 1))) (pCons (pIxO 8 (pC (.int 2))) pNil))))))
    pNext)
    (pAppend 5 (pVar 8)))))
    (pRet (pMove 5)))))
end Pl
namespace Pl
open PySem PySem.Spec PyProof.Rows L2
def All2 (Pd : D → Int → Prop) : List D → List Int → Prop
  | [], [] => True
  | d :: ds, y :: ys => Pd d y ∧ All2 Pd ds ys
  | _, _ => False
theorem All2.length {Pd : D → Int → Prop} : ∀ {ds : List D} {ys : List Int}, All2 Pd ds ys → ys.length = ds.length
  | [], [], _ => rfl
  | _ :: ds, _ :: ys, h => by simp [All2.length h.2]
  | [], _ :: _, h => h.elim
  | _ :: _, [], h => h.elim
theorem All2.mem {Pd : D → Int → Prop} : ∀ {ds : List D} {ys : List Int} {y : Int}, All2 Pd ds ys → y ∈ ys → ∃ d ∈ ds, Pd d y
  | [], [], _, _, h => by simp at h
  | d :: ds, z :: ys, y, h, hy => by
    rcases List.mem_cons.mp hy with e | hy
    · subst e; exact ⟨d, by simp, h.1⟩
    · obtain ⟨e, he, p⟩ := All2.mem h.2 hy
      exact ⟨e, by simp [he], p⟩
  | [], _ :: _, _, h, _ => h.elim
  | _ :: _, [], _, h, _ => h.elim
theorem Bx.le {n m : Nat} {xs : List D} (h : Bx n xs) (hm : n ≤ m) : Bx m xs := h.mono hm
end Pl
namespace Pl
def cT : List Bool → Nat
  | [] => 0
  | true :: o => cT o + 1
  | false :: o => cT o
def cF : List Bool → Nat
  | [] => 0
  | true :: o => cF o
  | false :: o => cF o + 1
theorem cT_append : ∀ (a b : List Bool), cT (a ++ b) = cT a + cT b
  | [], b => by simp [cT]
  | true :: a, b => by show cT (a ++ b) + 1 = cT a + 1 + cT b; rw [cT_append a b]; omega
  | false :: a, b => cT_append a b
theorem cF_append : ∀ (a b : List Bool), cF (a ++ b) = cF a + cF b
  | [], b => by simp [cF]
  | false :: a, b => by show cF (a ++ b) + 1 = cF a + 1 + cF b; rw [cF_append a b]; omega
  | true :: a, b => cF_append a b
theorem cT_cF : ∀ o : List Bool, cT o + cF o = o.length
  | [] => rfl
  | true :: o => by have := cT_cF o; show cT o + 1 + cF o = o.length + 1; omega
  | false :: o => by have := cT_cF o; show cT o + (cF o + 1) = o.length + 1; omega
def almL (cuts fills : List Int) (i j : Nat) : List Bool → List Wd
  | [] => []
  | true :: o => (true, cuts.getD i 0) :: almL cuts fills (i + 1) j o
  | false :: o => (false, fills.getD j 0) :: almL cuts fills i (j + 1) o
theorem almL_len (cuts fills : List Int) : ∀ (o : List Bool) (i j : Nat), (almL cuts fills i j o).length = o.length
  | [], _, _ => rfl
  | true :: o, i, j => by simp [almL, almL_len cuts fills o]
  | false :: o, i, j => by simp [almL, almL_len cuts fills o]
theorem almL_snocT (cuts fills : List Int) : ∀ (o : List Bool) (i j : Nat), almL cuts fills i j (o ++ [true]) = almL cuts fills i j o ++ [(true, cuts.getD (i + cT o) 0)]
  | [], i, j => by simp [almL, cT]
  | true :: o, i, j => by
    show (true, cuts.getD i 0) :: almL cuts fills (i + 1) j (o ++ [true]) = (true, cuts.getD i 0) :: (almL cuts fills (i + 1) j o ++ [(true, cuts.getD (i + (cT o + 1)) 0)])
    rw [almL_snocT cuts fills o, show i + 1 + cT o = i + (cT o + 1) by omega]
  | false :: o, i, j => by
    show (false, fills.getD j 0) :: almL cuts fills i (j + 1) (o ++ [true]) = (false, fills.getD j 0) :: (almL cuts fills i (j + 1) o ++ [(true, cuts.getD (i + cT o) 0)])
    rw [almL_snocT cuts fills o]
theorem almL_snocF (cuts fills : List Int) : ∀ (o : List Bool) (i j : Nat), almL cuts fills i j (o ++ [false]) = almL cuts fills i j o ++ [(false, fills.getD (j + cF o) 0)]
  | [], i, j => by simp [almL, cF]
  | true :: o, i, j => by
    show (true, cuts.getD i 0) :: almL cuts fills (i + 1) j (o ++ [false]) = (true, cuts.getD i 0) :: (almL cuts fills (i + 1) j o ++ [(false, fills.getD (j + cF o) 0)])
    rw [almL_snocF cuts fills o]
  | false :: o, i, j => by
    show (false, fills.getD j 0) :: almL cuts fills i (j + 1) (o ++ [false]) = (false, fills.getD j 0) :: (almL cuts fills i (j + 1) o ++ [(false, fills.getD (j + (cF o + 1)) 0)])
    rw [almL_snocF cuts fills o, show j + 1 + cF o = j + (cF o + 1) by omega]
theorem getD_nonneg {l : List Int} (h : ∀ x ∈ l, 0 ≤ x) (i : Nat) : 0 ≤ l.getD i 0 := by
  rw [List.getD_eq_getElem?_getD]
  cases e : l[i]? with
  | none => simp
  | some x => simp; exact h x (List.mem_of_getElem? e)
theorem almL_nonneg {cuts fills : List Int} (hc : ∀ x ∈ cuts, 0 ≤ x) (hf : ∀ x ∈ fills, 0 ≤ x) : ∀ (o : List Bool) (i j : Nat), ∀ w ∈ almL cuts fills i j o, 0 ≤ w.2
  | [], _, _, w, h => by simp [almL] at h
  | true :: o, i, j, w, h => by
    rcases List.mem_cons.mp h with e | h
    · rw [e]; exact getD_nonneg hc i
    · exact almL_nonneg hc hf o _ _ w h
  | false :: o, i, j, w, h => by
    rcases List.mem_cons.mp h with e | h
    · rw [e]; exact getD_nonneg hf j
    · exact almL_nonneg hc hf o _ _ w h
theorem almL_memT (cuts fills : List Int) : ∀ (o : List Bool) (i j k : Nat), k < cT o → (true, cuts.getD (i + k) 0) ∈ almL cuts fills i j o
  | [], _, _, k, h => by simp [cT] at h
  | true :: o, i, j, 0, _ => by simp [almL]
  | true :: o, i, j, k + 1, h => by
    have := almL_memT cuts fills o (i + 1) j k (by have : k + 1 < cT o + 1 := h; omega)
    rw [show i + 1 + k = i + (k + 1) by omega] at this
    exact List.mem_cons_of_mem _ this
  | false :: o, i, j, k, h => List.mem_cons_of_mem _ (almL_memT cuts fills o i (j + 1) k h)
theorem almL_memF (cuts fills : List Int) : ∀ (o : List Bool) (i j k : Nat), k < cF o → (false, fills.getD (j + k) 0) ∈ almL cuts fills i j o
  | [], _, _, k, h => by simp [cF] at h
  | false :: o, i, j, 0, _ => by simp [almL]
  | false :: o, i, j, k + 1, h => by
    have := almL_memF cuts fills o i (j + 1) k (by have : k + 1 < cF o + 1 := h; omega)
    rw [show j + 1 + k = j + (k + 1) by omega] at this
    exact List.mem_cons_of_mem _ this
  | true :: o, i, j, k, h => List.mem_cons_of_mem _ (almL_memF cuts fills o (i + 1) j k h)
def aheadL (k : Nat) : List Bool → List Nat
  | [] => []
  | true :: o => aheadL (k + 1) o
  | false :: o => k :: aheadL k o
theorem aheadL_len : ∀ (o : List Bool) (k : Nat), (aheadL k o).length = cF o
  | [], _ => rfl
  | true :: o, k => aheadL_len o (k + 1)
  | false :: o, k => by show (aheadL k o).length + 1 = cF o + 1; rw [aheadL_len o k]
theorem aheadL_snocT : ∀ (o : List Bool) (k : Nat), aheadL k (o ++ [true]) = aheadL k o
  | [], _ => rfl
  | true :: o, k => aheadL_snocT o (k + 1)
  | false :: o, k => by show k :: aheadL k (o ++ [true]) = k :: aheadL k o; rw [aheadL_snocT o k]
theorem aheadL_snocF : ∀ (o : List Bool) (k : Nat), aheadL k (o ++ [false]) = aheadL k o ++ [k + cT o]
  | [], _ => by simp [aheadL, cT]
  | true :: o, k => by show aheadL (k + 1) (o ++ [false]) = aheadL (k + 1) o ++ [k + (cT o + 1)]; rw [aheadL_snocF o (k + 1), show k + 1 + cT o = k + (cT o + 1) by omega]
  | false :: o, k => by show k :: aheadL k (o ++ [false]) = k :: (aheadL k o ++ [k + cT o]); rw [aheadL_snocF o k]
theorem aheadL_le : ∀ (o : List Bool) (k : Nat), ∀ x ∈ aheadL k o, k ≤ x ∧ x ≤ k + cT o
  | [], _, x, h => by simp [aheadL] at h
  | true :: o, k, x, h => by
    have := aheadL_le o (k + 1) x h
    show k ≤ x ∧ x ≤ k + (cT o + 1); omega
  | false :: o, k, x, h => by
    rcases List.mem_cons.mp h with e | h
    · subst e; show x ≤ x ∧ x ≤ x + cT o; omega
    · exact aheadL_le o k x h
structure Dom (A B : List Bool) : Prop where
  t : cT B ≤ cT A
  f : cF A ≤ cF B
  le : ∀ (j x y : Nat), (aheadL 0 A)[j]? = some x → (aheadL 0 B)[j]? = some y → y ≤ x
theorem behindL_snoc (l : List Int) (ws : List Wd) (w : Wd) : behindL l (ws ++ [w]) = blW (behindL l ws) w := behindL_append l ws [w]
theorem get_snoc_lt {l : List Nat} {x y : Nat} {j : Nat} (h : l[j]? = some y) : (l ++ [x])[j]? = some y := by
  have hj : j < l.length := by
    rcases Nat.lt_or_ge j l.length with q | q
    · exact q
    · rw [List.getElem?_eq_none q] at h; cases h
  rw [List.getElem?_append_left hj]; exact h
theorem dom_le {cuts fills : List Int} (hc : ∀ x ∈ cuts, 0 ≤ x) (hf : ∀ x ∈ fills, 0 ≤ x) (l : List Int) : ∀ (n : Nat) (A B : List Bool), A.length + B.length ≤ n → Dom A B → Lq (behindL l (almL cuts fills 0 0 A)) (behindL l (almL cuts fills 0 0 B)) := by
  intro n
  induction n with
  | zero =>
    intro A B hn D
    have hA : A = [] := List.length_eq_zero_iff.mp (by omega)
    have hB : B = [] := List.length_eq_zero_iff.mp (by omega)
    subst hA hB
    exact Lq.refl _
  | succ n ih =>
    intro A B hn D
    rcases List.eq_nil_or_concat B with rfl | ⟨B', b, rfl⟩
    · rcases List.eq_nil_or_concat A with rfl | ⟨A', a, rfl⟩
      · exact Lq.refl _
      · rw [List.concat_eq_append] at *
        cases a with
        | false =>
          have := D.f
          rw [cF_append] at this
          simp [cF] at this
        | true =>
          rw [almL_snocT, behindL_snoc]
          have D' : Dom A' [] := ⟨Nat.zero_le _, by have := D.f; rw [cF_append] at this; simpa [cF] using this, fun j x y _ h => by simp [aheadL] at h⟩
          exact (cutTo_le _ _).trans (ih A' [] (by simp at hn ⊢; omega) D')
    · rw [List.concat_eq_append] at *
      cases b with
      | true =>
        rw [almL_snocT, behindL_snoc]
        have h1 := D.t
        rw [cT_append] at h1
        have h1 : cT B' + 1 ≤ cT A := h1
        have D' : Dom A B' := ⟨by omega, by have := D.f; rw [cF_append] at this; simpa [cF] using this, fun j x y hx hy => D.le j x y hx (by rw [aheadL_snocT]; exact hy)⟩
        have hg : Gentle (cuts.getD (0 + cT B') 0) (behindL l (almL cuts fills 0 0 A)) := behindL_gentle (almL_nonneg hc hf A 0 0) _ (almL_memT cuts fills A 0 0 (cT B') (by omega))
        exact cutTo_max hg (ih A B' (by simp at hn; omega) D')
      | false =>
        rcases List.eq_nil_or_concat A with rfl | ⟨A', a, rfl⟩
        · rw [almL_snocF, behindL_snoc]
          have D' : Dom [] B' := ⟨by have := D.t; rw [cT_append] at this; simpa [cT] using this, Nat.zero_le _, fun j x y h _ => by simp [aheadL] at h⟩
          exact (ih [] B' (by simp at hn ⊢; omega) D').trans (fillTo_ge _ _)
        · rw [List.concat_eq_append] at *
          cases a with
          | false =>
            rw [almL_snocF, behindL_snoc]
            have h1 := D.f
            rw [cF_append] at h1
            have h1 : cF A' + 1 ≤ cF (B' ++ [false]) := h1
            have D' : Dom A' (B' ++ [false]) := ⟨by have := D.t; rw [cT_append A'] at this; simpa [cT] using this, by omega, fun j x y hx hy => D.le j x y (by rw [aheadL_snocF]; exact get_snoc_lt hx) hy⟩
            have hg : Gentle (fills.getD (0 + cF A') 0) (behindL l (almL cuts fills 0 0 (B' ++ [false]))) := behindL_gentle (almL_nonneg hc hf _ 0 0) _ (almL_memF cuts fills _ 0 0 (cF A') (by omega))
            exact fillTo_min hg (ih A' (B' ++ [false]) (by simp at hn ⊢; omega) D')
          | true =>
            have ht := D.t
            have hff := D.f
            rw [cT_append, cT_append] at ht
            rw [cF_append, cF_append] at hff
            have ht : cT B' + 0 ≤ cT A' + 1 := ht
            have hff : cF A' + 0 ≤ cF B' + 1 := hff
            by_cases h1 : cF A' ≤ cF B'
            · have D' : Dom (A' ++ [true]) B' := ⟨by rw [cT_append]; show cT B' ≤ cT A' + 1; omega, by rw [cF_append]; show cF A' + 0 ≤ cF B'; omega, fun j x y hx hy => D.le j x y hx (by rw [aheadL_snocF]; exact get_snoc_lt hy)⟩
              rw [almL_snocF, behindL_snoc]
              exact (ih (A' ++ [true]) B' (by simp at hn ⊢; omega) D').trans (fillTo_ge _ _)
            · by_cases h2 : cT B' ≤ cT A'
              · have D' : Dom A' (B' ++ [false]) := ⟨by rw [cT_append]; show cT B' + 0 ≤ cT A'; omega, by rw [cF_append]; show cF A' ≤ cF B' + 1; omega, fun j x y hx hy => D.le j x y (by rw [aheadL_snocT]; exact hx) hy⟩
                rw [almL_snocT, behindL_snoc]
                exact (cutTo_le _ _).trans (ih A' (B' ++ [false]) (by simp at hn ⊢; omega) D')
              · exfalso
                have e : cF A' = cF B' + 1 := by omega
                have hlen := aheadL_len A' 0
                have hx : (aheadL 0 A')[cF B']? = some ((aheadL 0 A')[cF B']'(by omega)) := List.getElem?_eq_getElem (by omega)
                have hy : (aheadL 0 (B' ++ [false]))[cF B']? = some (0 + cT B') := by
                  rw [aheadL_snocF, List.getElem?_append_right (by rw [aheadL_len]; exact Nat.le_refl _), aheadL_len, Nat.sub_self]; rfl
                have := D.le _ _ _ (by rw [aheadL_snocT]; exact hx) hy
                have hm := aheadL_le A' 0 _ (List.mem_of_getElem? hx)
                omega
end Pl
namespace Pl
def Rise (m : Nat) : Nat → List Nat → Prop
  | d, [] => d ≤ m
  | d, a :: as => d ≤ a ∧ Rise m a as
def ordW (d : Nat) : List Nat → Nat → List Bool
  | [], m => List.replicate (m - d) true
  | a :: as, m => List.replicate (a - d) true ++ false :: ordW a as m
theorem Rise.le {m : Nat} : ∀ {as : List Nat} {d : Nat}, Rise m d as → d ≤ m
  | [], _, h => h
  | a :: as, d, h => Nat.le_trans h.1 (Rise.le h.2)
theorem cT_rep : ∀ n : Nat, cT (List.replicate n true) = n
  | 0 => rfl
  | n + 1 => by show cT (List.replicate n true) + 1 = n + 1; rw [cT_rep n]
theorem cF_rep : ∀ n : Nat, cF (List.replicate n true) = 0
  | 0 => rfl
  | n + 1 => cF_rep n
theorem ahead_rep (o : List Bool) : ∀ (n k : Nat), aheadL k (List.replicate n true ++ o) = aheadL (k + n) o
  | 0, k => rfl
  | n + 1, k => by
    show aheadL (k + 1) (List.replicate n true ++ o) = _
    rw [ahead_rep o n (k + 1), show k + 1 + n = k + (n + 1) by omega]
theorem ordW_cT {m : Nat} : ∀ {as : List Nat} {d : Nat}, Rise m d as → cT (ordW d as m) = m - d
  | [], d, _ => cT_rep _
  | a :: as, d, h => by
    show cT (List.replicate (a - d) true ++ false :: ordW a as m) = m - d
    rw [cT_append, cT_rep]
    show a - d + cT (ordW a as m) = m - d
    rw [ordW_cT h.2]
    have := h.1; have := h.2.le; omega
theorem ordW_cF (m : Nat) : ∀ (as : List Nat) (d : Nat), cF (ordW d as m) = as.length
  | [], d => cF_rep _
  | a :: as, d => by
    show cF (List.replicate (a - d) true ++ false :: ordW a as m) = as.length + 1
    rw [cF_append, cF_rep]
    show 0 + (cF (ordW a as m) + 1) = as.length + 1
    rw [ordW_cF m as a]; omega
theorem ordW_ahead {m : Nat} : ∀ {as : List Nat} {d : Nat}, Rise m d as → aheadL d (ordW d as m) = as
  | [], d, _ => by
    show aheadL d (List.replicate (m - d) true) = []
    have := ahead_rep [] (m - d) d
    rw [List.append_nil] at this
    rw [this]; rfl
  | a :: as, d, h => by
    show aheadL d (List.replicate (a - d) true ++ false :: ordW a as m) = a :: as
    rw [ahead_rep, show d + (a - d) = a by have := h.1; omega]
    show a :: aheadL a (ordW a as m) = a :: as
    rw [ordW_ahead h.2]
theorem ordW_step {m k : Nat} : ∀ {as : List Nat}, Rise m (k + 1) as → ordW k as m = true :: ordW (k + 1) as m
  | [], h => by
    have h : k + 1 ≤ m := h
    show List.replicate (m - k) true = true :: List.replicate (m - (k + 1)) true
    rw [show m - k = (m - (k + 1)) + 1 by omega]; rfl
  | a :: as, h => by
    have := h.1
    show List.replicate (a - k) true ++ false :: ordW a as m = true :: (List.replicate (a - (k + 1)) true ++ false :: ordW a as m)
    rw [show a - k = (a - (k + 1)) + 1 by omega]; rfl
theorem rise_ahead : ∀ (o : List Bool) (k : Nat), Rise (k + cT o) k (aheadL k o)
  | [], k => by show k ≤ k + 0; omega
  | true :: o, k => by
    show Rise (k + (cT o + 1)) k (aheadL (k + 1) o)
    have h := rise_ahead o (k + 1)
    rw [show k + 1 + cT o = k + (cT o + 1) by omega] at h
    generalize aheadL (k + 1) o = as at h
    cases as with
    | nil => show k ≤ _; omega
    | cons a as => exact ⟨by have := h.1; omega, h.2⟩
  | false :: o, k => ⟨Nat.le_refl _, rise_ahead o k⟩
theorem ord_of : ∀ (o : List Bool) (k : Nat), ordW k (aheadL k o) (k + cT o) = o
  | [], k => by show List.replicate (k + 0 - k) true = []; rw [show k + 0 - k = 0 by omega]; rfl
  | true :: o, k => by
    show ordW k (aheadL (k + 1) o) (k + (cT o + 1)) = true :: o
    have h := rise_ahead o (k + 1)
    rw [show k + 1 + cT o = k + (cT o + 1) by omega] at h
    rw [ordW_step h]
    have e := ord_of o (k + 1)
    rw [show k + 1 + cT o = k + (cT o + 1) by omega] at e
    rw [e]
  | false :: o, k => by
    show List.replicate (k - k) true ++ false :: ordW k (aheadL k o) (k + cT o) = false :: o
    rw [Nat.sub_self, ord_of o k]; rfl
theorem rise_get {m : Nat} : ∀ {as : List Nat} {d : Nat}, Rise m d as → ∀ (i j x y : Nat), i ≤ j → as[i]? = some x → as[j]? = some y → x ≤ y ∧ d ≤ x ∧ y ≤ m
  | [], _, _, i, j, x, y, _, h, _ => by simp at h
  | a :: as, d, h, 0, 0, x, y, _, h1, h2 => by
    have e1 : a = x := by simpa using h1
    have e2 : a = y := by simpa using h2
    subst e1 e2
    exact ⟨Nat.le_refl _, h.1, h.2.le⟩
  | a :: as, d, h, 0, j + 1, x, y, _, h1, h2 => by
    have e1 : a = x := by simpa using h1
    subst e1
    have h2 : as[j]? = some y := by simpa using h2
    have := rise_get h.2 j j y y (Nat.le_refl _) h2 h2
    exact ⟨this.2.1, h.1, this.2.2⟩
  | a :: as, d, h, i + 1, j + 1, x, y, hij, h1, h2 => by
    have := rise_get h.2 i j x y (by omega) (by simpa using h1) (by simpa using h2)
    exact ⟨this.1, Nat.le_trans h.1 this.2.1, this.2.2⟩
  | a :: as, d, h, i + 1, 0, x, y, hij, _, _ => by omega
theorem rise_of {m : Nat} (f : Nat → Nat) (hm : ∀ i, f i ≤ m) : ∀ (n k d : Nat), d ≤ m → (∀ i, k ≤ i → d ≤ f i) → (∀ i j, i ≤ j → f i ≤ f j) → Rise m d ((List.range' k n).map f)
  | 0, k, d, h0, _, _ => h0
  | n + 1, k, d, h0, hd, hf => ⟨hd k (Nat.le_refl _), rise_of f hm n (k + 1) (f k) (hm k) (fun i hi => hf k i (by omega)) hf⟩
abbrev Wo := Bool × Nat × Nat
def hasW (as : List Nat) (w : Wo) : Bool := w.1 == decide (w.2.1 < as.getD w.2.2 0)
def contr (u v : Wo) : Bool := match u.1, v.1 with
  | true, false => decide (v.2.1 ≤ u.2.1) && decide (u.2.2 ≤ v.2.2)
  | false, true => decide (u.2.1 ≤ v.2.1) && decide (v.2.2 ≤ u.2.2)
  | _, _ => false
def loN (ws : List Wo) (f : Nat) : Nat := ((ws.filter fun w => w.1 && decide (w.2.2 ≤ f)).map fun w => w.2.1 + 1).foldl max 0
def hiN (m : Nat) (ws : List Wo) (f : Nat) : Nat := ((ws.filter fun w => !w.1 && decide (f ≤ w.2.2)).map fun w => w.2.1).foldl min m
theorem nmax_le {b : Nat} : ∀ {l : List Nat} {a : Nat}, l.foldl max a ≤ b ↔ a ≤ b ∧ ∀ x ∈ l, x ≤ b
  | [], a => by simp
  | x :: l, a => by
    rw [List.foldl_cons, nmax_le]
    simp
    constructor
    · rintro ⟨h1, h2⟩; exact ⟨by omega, by omega, h2⟩
    · rintro ⟨h1, h2, h3⟩; exact ⟨by omega, h3⟩
theorem nmin_ge {b : Nat} : ∀ {l : List Nat} {a : Nat}, b ≤ l.foldl min a ↔ b ≤ a ∧ ∀ x ∈ l, b ≤ x
  | [], a => by simp
  | x :: l, a => by
    rw [List.foldl_cons, nmin_ge]
    simp
    constructor
    · rintro ⟨h1, h2⟩; exact ⟨by omega, by omega, h2⟩
    · rintro ⟨h1, h2, h3⟩; exact ⟨by omega, h3⟩
theorem lo_le {ws : List Wo} {f b : Nat} : loN ws f ≤ b ↔ ∀ w ∈ ws, w.1 = true → w.2.2 ≤ f → w.2.1 + 1 ≤ b := by
  unfold loN
  rw [nmax_le]
  constructor
  · rintro ⟨_, h⟩ w hw h1 h2
    exact h _ (List.mem_map.mpr ⟨w, List.mem_filter.mpr ⟨hw, by simp [h1, h2]⟩, rfl⟩)
  · intro h
    refine ⟨Nat.zero_le _, fun x hx => ?_⟩
    obtain ⟨w, hw, rfl⟩ := List.mem_map.mp hx
    obtain ⟨hw, hp⟩ := List.mem_filter.mp hw
    have hp : w.1 = true ∧ w.2.2 ≤ f := by simpa using hp
    exact h w hw hp.1 hp.2
theorem hi_ge {m : Nat} {ws : List Wo} {f b : Nat} : b ≤ hiN m ws f ↔ b ≤ m ∧ ∀ w ∈ ws, w.1 = false → f ≤ w.2.2 → b ≤ w.2.1 := by
  unfold hiN
  rw [nmin_ge]
  constructor
  · rintro ⟨h0, h⟩
    exact ⟨h0, fun w hw h1 h2 => h _ (List.mem_map.mpr ⟨w, List.mem_filter.mpr ⟨hw, by simp [h1, h2]⟩, rfl⟩)⟩
  · rintro ⟨h0, h⟩
    refine ⟨h0, fun x hx => ?_⟩
    obtain ⟨w, hw, rfl⟩ := List.mem_map.mp hx
    obtain ⟨hw, hp⟩ := List.mem_filter.mp hw
    have hp : w.1 = false ∧ f ≤ w.2.2 := by simpa using hp
    exact h w hw hp.1 hp.2
theorem lo_rise (ws : List Wo) {f g : Nat} (h : f ≤ g) : loN ws f ≤ loN ws g := lo_le.mpr fun w hw h1 h2 => lo_le.mp (Nat.le_refl (loN ws g)) w hw h1 (by omega)
theorem hi_rise (m : Nat) (ws : List Wo) {f g : Nat} (h : f ≤ g) : hiN m ws f ≤ hiN m ws g := hi_ge.mpr ⟨(hi_ge.mp (Nat.le_refl (hiN m ws f))).1, fun w hw h1 h2 => (hi_ge.mp (Nat.le_refl (hiN m ws f))).2 w hw h1 (by omega)⟩
def InB (m n : Nat) (ws : List Wo) : Prop := ∀ w ∈ ws, w.2.1 < m ∧ w.2.2 < n
theorem lo_top {m n : Nat} {ws : List Wo} (h : InB m n ws) (f : Nat) : loN ws f ≤ m := lo_le.mpr fun w hw _ _ => (h w hw).1
theorem hi_top (m : Nat) (ws : List Wo) (f : Nat) : hiN m ws f ≤ m := (hi_ge.mp (Nat.le_refl (hiN m ws f))).1
def loL (n : Nat) (ws : List Wo) : List Nat := (List.range' 0 n).map (loN ws)
def hiL (m n : Nat) (ws : List Wo) : List Nat := (List.range' 0 n).map (hiN m ws)
theorem loL_rise {m n : Nat} {ws : List Wo} (h : InB m n ws) : Rise m 0 (loL n ws) := rise_of _ (lo_top h) n 0 0 (Nat.zero_le _) (fun _ _ => Nat.zero_le _) fun _ _ h => lo_rise ws h
theorem hiL_rise (m n : Nat) (ws : List Wo) : Rise m 0 (hiL m n ws) := rise_of _ (hi_top m ws) n 0 0 (Nat.zero_le _) (fun _ _ => Nat.zero_le _) fun _ _ h => hi_rise m ws h
theorem has_between {m : Nat} {as : List Nat} (hr : Rise m 0 as) {ws : List Wo} (hb : InB m as.length ws) (h : ∀ w ∈ ws, hasW as w = true) {f x : Nat} (hx : as[f]? = some x) : loN ws f ≤ x ∧ x ≤ hiN m ws f := by
  refine ⟨lo_le.mpr fun w hw h1 h2 => ?_, hi_ge.mpr ⟨(rise_get hr f f x x (Nat.le_refl _) hx hx).2.2, fun w hw h1 h2 => ?_⟩⟩
  · have hh := h w hw
    unfold hasW at hh
    rw [h1] at hh
    have hlt : w.2.1 < as.getD w.2.2 0 := by simpa using hh
    have hg : as[w.2.2]? = some (as[w.2.2]'(hb w hw).2) := List.getElem?_eq_getElem _
    rw [List.getD_eq_getElem?_getD, hg] at hlt
    have := (rise_get hr _ _ _ _ h2 hg hx).1
    have hlt : w.2.1 < as[w.2.2]'(hb w hw).2 := hlt
    omega
  · have hh := h w hw
    unfold hasW at hh
    rw [h1] at hh
    have hlt : ¬ w.2.1 < as.getD w.2.2 0 := by simpa using hh
    have hg : as[w.2.2]? = some (as[w.2.2]'(hb w hw).2) := List.getElem?_eq_getElem _
    rw [List.getD_eq_getElem?_getD, hg] at hlt
    have := (rise_get hr _ _ _ _ h2 hx hg).1
    have hlt : ¬ w.2.1 < as[w.2.2]'(hb w hw).2 := hlt
    omega
theorem has_noclash {m : Nat} {as : List Nat} (hr : Rise m 0 as) {u v : Wo} (hu : u.2.2 < as.length) (hv : v.2.2 < as.length) (h1 : hasW as u = true) (h2 : hasW as v = true) : contr u v = false := by
  have key : ∀ {u v : Wo}, u.2.2 < as.length → v.2.2 < as.length → hasW as u = true → hasW as v = true → u.1 = true → v.1 = false → ¬ (v.2.1 ≤ u.2.1 ∧ u.2.2 ≤ v.2.2) := by
    intro u v hu hv h1 h2 e1 e2 hh
    unfold hasW at h1 h2
    rw [e1] at h1
    rw [e2] at h2
    have a1 : u.2.1 < as.getD u.2.2 0 := by simpa using h1
    have a2 : ¬ v.2.1 < as.getD v.2.2 0 := by simpa using h2
    have g1 : as[u.2.2]? = some (as[u.2.2]'hu) := List.getElem?_eq_getElem _
    have g2 : as[v.2.2]? = some (as[v.2.2]'hv) := List.getElem?_eq_getElem _
    rw [List.getD_eq_getElem?_getD, g1] at a1
    rw [List.getD_eq_getElem?_getD, g2] at a2
    have a1 : u.2.1 < as[u.2.2]'hu := a1
    have a2 : ¬ v.2.1 < as[v.2.2]'hv := a2
    have := (rise_get hr _ _ _ _ hh.2 g1 g2).1
    omega
  unfold contr
  cases e1 : u.1 with
  | true =>
    cases e2 : v.1 with
    | true => rfl
    | false => have := key hu hv h1 h2 e1 e2; simpa using fun h => by have := this; omega
  | false =>
    cases e2 : v.1 with
    | false => rfl
    | true => have := key hv hu h2 h1 e2 e1; simpa using fun h => by have := this; omega
theorem get_lo {n : Nat} {ws : List Wo} {f x : Nat} (h : (loL n ws)[f]? = some x) : x = loN ws f ∧ f < n := by
  unfold loL at h
  rw [List.getElem?_map] at h
  by_cases hf : f < n
  · rw [List.getElem?_range' hf] at h
    have h : loN ws (0 + 1 * f) = x := by simpa using h
    rw [show 0 + 1 * f = f by omega] at h
    exact ⟨h.symm, hf⟩
  · rw [List.getElem?_eq_none (by simpa using hf)] at h; cases h
theorem get_hi {m n : Nat} {ws : List Wo} {f x : Nat} (h : (hiL m n ws)[f]? = some x) : x = hiN m ws f ∧ f < n := by
  unfold hiL at h
  rw [List.getElem?_map] at h
  by_cases hf : f < n
  · rw [List.getElem?_range' hf] at h
    have h : hiN m ws (0 + 1 * f) = x := by simpa using h
    rw [show 0 + 1 * f = f by omega] at h
    exact ⟨h.symm, hf⟩
  · rw [List.getElem?_eq_none (by simpa using hf)] at h; cases h
end Pl
namespace Pl
open PySem PySem.Spec PyProof.Rows L2
def sg : Bool → Nat
  | true => 99
  | false => 102
def sgS (b : Bool) : Str := ⟨#[sg b]⟩
def txt (o : List Bool) : Str := ⟨(o.map sg).toArray⟩
def sgD (b : Bool) : D := .str (sgS b)
theorem signs_txt (o : List Bool) : signsD (txt o) = o.map sgD := by
  unfold signsD txt
  rw [List.map_map]; rfl
theorem txt_len (o : List Bool) : (txt o).length = o.length := by
  show (o.map sg).toArray.size = o.length
  simp
theorem txt_append (a b : List Bool) : txt a ++ txt b = txt (a ++ b) := by
  show (⟨(a.map sg).toArray ++ (b.map sg).toArray⟩ : Str) = ⟨((a ++ b).map sg).toArray⟩
  simp
theorem eqv_sgc (b : Bool) : (sgD b).eqv (.str "c") = b := by cases b <;> decide +kernel
theorem eqv_sgf (b : Bool) : (sgD b).eqv (.str "f") = !b := by cases b <;> decide +kernel
theorem sh_sg (b : Bool) : (sgD b).sh := by cases b <;> (unfold D.sh; decide +kernel)
theorem sh_c : (D.str "c").sh := by unfold D.sh; decide +kernel
theorem sh_f : (D.str "f").sh := by unfold D.sh; decide +kernel
theorem eqv_words' (a b : Bool) : (D.str (wordS a)).eqv (.str (wordS b)) = (a == b) := by cases a <;> cases b <;> decide +kernel
theorem sh_word' (c : Bool) : (D.str (wordS c)).sh := by cases c with | true => exact sh_cut | false => exact sh_fill
theorem atI_get {ns : List Int} {j : Nat} (h : j < ns.length) : atI (dI ns) ((j : Nat) : Int) = some (.int (ns.getD j 0)) := atI_ints' h
def g_almanac_of : FA := fun ds C => ∃ d cuts e fills o, ds = [d, e, .str (txt o)] ∧ Sq d cuts ∧ Sq e fills ∧ cT o ≤ cuts.length ∧ cF o ≤ fills.length ∧ o.length ≤ 900 ∧ ∀ p, C (.own p (windsD (almL cuts fills 0 0 o)))
theorem rd_almanac_of : ∀ ds C, ds.length = 3 → g_almanac_of ds C → T_almanac_of { nx := fun _ => C (.val .non), rt := fun c _ => C c } (startA N_almanac_of ds) := by
  rintro ds C - ⟨d, cuts, e, fills, o, rfl, hd, he, hc, hf, hl, hC⟩
  have h2 : (2 : Nat) ≤ sizeLine := by decide
  have ix : ∀ {d : D} {ns : List Int} {j : Nat} {Q : D → Prop}, Sq d ns → j < ns.length → Q (.int (ns.getD j 0)) → fIx d (.int ((j : Nat) : Int)) Q := by
    intro d ns j Q hd hj hq
    rcases hd with rfl | rfl
    · exact ⟨_, atI_get hj, hq⟩
    · exact ⟨_, atI_get hj, hq⟩
  refine ⟨by show (0 : Nat) ≤ sizeLine; decide, fun b => ?_⟩
  show forW _ _ _ (signsD (txt o)) _
  rw [signs_txt]
  refine for_inv (fun ds ρ => ∃ (done rest : List Bool) (w : Option Cell), ds = rest.map sgD ∧ o = done ++ rest ∧ ρ = [some (.val d), some (.val e), some (.val (.str (txt o))), some (.own b (windsD (almL cuts fills 0 0 done))), some (.val (.int ((cT done : Nat) : Int))), some (.val (.int ((cF done : Nat) : Int))), w]) (fun x r ρ K hK hI => ?_) (fun ρ hI => ?_) _ _ ⟨[], o, none, rfl, rfl, rfl⟩
  · obtain ⟨done, rest, w, e1, e2, rfl⟩ := hI
    cases rest with
    | nil => cases e1
    | cons s rest =>
      cases e1
      have hT : cT done + cT (s :: rest) = cT o := by rw [e2, cT_append]
      have hF : cF done + cF (s :: rest) = cF o := by rw [e2, cF_append]
      have hlen : done.length + (rest.length + 1) = o.length := by rw [e2]; simp
      have hz : (windsD (almL cuts fills 0 0 done)).length < sizeLine := small1000 (by rw [windsD_len, almL_len]; omega)
      refine ⟨sh_sg s, sh_c, ?_⟩
      cases s with
      | true =>
        have hT : cT done + (cT rest + 1) = cT o := hT
        refine ifT (eqv_sgc true) ?_
        refine ix hd (by omega) ⟨h2, _, rfl, hz, ?_⟩
        refine ⟨_, rfl, hK _ ⟨done ++ [true], rest, some (.val (sgD true)), rfl, by rw [e2]; simp, ?_⟩⟩
        rw [almL_snocT, ← windsD_append, cT_append, cF_append, Nat.zero_add]
        show [some (Cell.val d), some (.val e), some (.val (.str (txt o))), some (.own b (windsD (almL cuts fills 0 0 done) ++ [windD true (cuts.getD (cT done) 0)])), some (.val (.int (((cT done : Nat) : Int) + 1))), some (.val (.int ((cF done : Nat) : Int))), some (.val (sgD true))] = _
        rfl
      | false =>
        have hF : cF done + (cF rest + 1) = cF o := hF
        refine ifF (eqv_sgc false) ?_
        refine ix he (by omega) ⟨h2, _, rfl, hz, ?_⟩
        refine ⟨_, rfl, hK _ ⟨done ++ [false], rest, some (.val (sgD false)), rfl, by rw [e2]; simp, ?_⟩⟩
        rw [almL_snocF, ← windsD_append, cT_append, cF_append, Nat.zero_add]
        rfl
  · obtain ⟨done, rest, w, e1, e2, rfl⟩ := hI
    cases rest with
    | cons s rest => cases e1
    | nil =>
      rw [List.append_nil] at e2
      subst e2
      exact hC b
def wordD (w : Wo) : D := .tup [.str (wordS w.1), .int ((w.2.1 : Nat) : Int), .int ((w.2.2 : Nat) : Int)]
def wordsD (ws : List Wo) : List D := ws.map wordD
theorem wordsD_len (ws : List Wo) : (wordsD ws).length = ws.length := by simp [wordsD]
def Ws (d : D) (ws : List Wo) : Prop := d = .lst (wordsD ws) ∨ d = .tup (wordsD ws)
def g_are_contrary : FA := fun ds C => ∃ u v, ds = [wordD u, wordD v] ∧ C (.val (.bl (contr u v)))
theorem bl_le {a b : Nat} : decide (((a : Nat) : Int) ≤ ((b : Nat) : Int)) = decide (a ≤ b) := decide_eq_decide.mpr (by omega)
theorem rd_are_contrary : ∀ ds C, ds.length = 2 → g_are_contrary ds C → T_are_contrary { nx := fun _ => C (.val .non), rt := fun c _ => C c } (startA N_are_contrary ds) := by
  rintro ds C - ⟨⟨a, c, f⟩, ⟨a', c', f'⟩, rfl, hC⟩
  have h2 : (2 : Nat) ≤ sizeLine := by decide
  refine ⟨_, rfl, _, rfl, sh_word' a, sh_word' a', ?_⟩
  refine ifB (fun h => ?_) (fun h => ?_)
  · rw [show (D.str (wordS a)).eqv (.str (wordS a')) = _ from eqv_words' a a'] at h
    have h : a = a' := by simpa using h
    subst h
    have e : contr (a, c, f) (a, c', f') = false := by cases a <;> rfl
    rw [e] at hC
    exact hC
  · rw [show (D.str (wordS a)).eqv (.str (wordS a')) = _ from eqv_words' a a'] at h
    have h : a ≠ a' := by simpa using h
    refine ⟨_, rfl, sh_word' a, sh_cut, ?_⟩
    cases a with
    | true =>
      have e : a' = false := by cases a' <;> simp at h ⊢
      subst e
      refine ifT (show (D.str (wordS true)).eqv (.str (wordS true)) = true from eqv_words' true true) ⟨h2, rfl, rfl, ?_⟩
      have e : contr (true, c, f) (false, c', f') = (decide (c' ≤ c) && decide (f ≤ f')) := rfl
      rw [e] at hC
      refine ⟨_, rfl, _, rfl, ifB (fun q => ?_) (fun q => ?_)⟩
      · rw [bl_le] at q; rw [q] at hC
        refine ⟨_, rfl, _, rfl, ?_⟩
        show C (.val (.bl (decide (((f : Nat) : Int) ≤ ((f' : Nat) : Int)))))
        rw [bl_le]; exact hC
      · rw [bl_le] at q; rw [q] at hC; exact hC
    | false =>
      have e : a' = true := by cases a' <;> simp at h ⊢
      subst e
      refine ifF (show (D.str (wordS false)).eqv (.str (wordS true)) = false from eqv_words' false true) ⟨h2, rfl, rfl, ?_⟩
      have e : contr (false, c, f) (true, c', f') = (decide (c ≤ c') && decide (f' ≤ f)) := rfl
      rw [e] at hC
      refine ⟨_, rfl, _, rfl, ifB (fun q => ?_) (fun q => ?_)⟩
      · rw [bl_le] at q; rw [q] at hC
        refine ⟨_, rfl, _, rfl, ?_⟩
        show C (.val (.bl (decide (((f' : Nat) : Int) ≤ ((f : Nat) : Int)))))
        rw [bl_le]; exact hC
      · rw [bl_le] at q; rw [q] at hC; exact hC
def NoClash (ws : List Wo) : Prop := ∀ u ∈ ws, ∀ v ∈ ws, contr u v = false
def g_first_clash : FA := fun ds C => ∃ d ws, ds = [d] ∧ Ws d ws ∧ NoClash ws ∧ ws.length ≤ 1000 ∧ C (.val .non)
def g_refuse_clash : FA := fun ds C => ∃ d ws, ds = [d] ∧ Ws d ws ∧ NoClash ws ∧ ws.length ≤ 1000 ∧ C (.val .non)
end Pl
namespace Pl
open PySem PySem.Spec PyProof.Rows L2
theorem lcW_words {vs : List Nat} {g : TGp} {tt : TTp} {te : TEp} {Q : List D → Ro → Prop} {p : Wo → Bool} {f : Wo → D} {ρ : Ro} : ∀ (ws : List Wo) (acc : List D),
    (∀ w ∈ ws, ∀ K : Bool → Ro → Prop, (∀ ρ3, restore ρ ρ3 vs = ρ → (p w = true → ∀ K2 : D → Ro → Prop, (∀ ρ4, restore ρ ρ4 vs = ρ → K2 (f w) ρ4) → te ρ3 K2) → K (p w) ρ3) → g (wordD w) (wipeP ρ vs) fun ρ2 => tt ρ2 K) → acc.length + ws.length ≤ 1000 → Q (acc ++ (ws.filter p).map f) ρ → lcW vs g tt te Q (wordsD ws) acc ρ
  | [], acc, _, _, hQ => by
    have hQ : Q (acc ++ []) ρ := hQ
    rw [List.append_nil] at hQ
    exact hQ
  | d :: ds, acc, h, hl, hQ => by
    have hl' : acc.length + (ds.length + 1) ≤ 1000 := hl
    refine h d (by simp) _ fun ρ3 e3 ht => ?_
    cases hp : p d with
    | true =>
      refine ite_ti (ht hp _ fun ρ4 e4 => ⟨small1000 (by omega), ?_⟩)
      rw [e4]
      refine lcW_words ds _ (fun x hx => h x (by simp [hx])) (by rw [List.length_append]; show acc.length + 1 + ds.length ≤ 1000; omega) ?_
      rw [List.filter_cons_of_pos hp, List.map_cons] at hQ
      rw [List.append_assoc]
      exact hQ
    | false =>
      refine ite_fi ?_
      rw [e3]
      refine lcW_words ds _ (fun x hx => h x (by simp [hx])) (by omega) ?_
      rw [List.filter_cons_of_neg (by rw [hp]; simp)] at hQ
      exact hQ
theorem bestDD_max : ∀ l : List Nat, bestDD max (.int 0) (l.map fun (n : Nat) => (n : Int)) = .int ((l.foldl max 0 : Nat) : Int) := by
  have key : ∀ (l : List Nat) (a : Nat), (l.map fun (n : Nat) => (n : Int)).foldl max (a : Int) = ((l.foldl max a : Nat) : Int) := by
    intro l
    induction l with
    | nil => intro a; rfl
    | cons x l ih =>
      intro a
      rw [List.map_cons, List.foldl_cons, List.foldl_cons, ← ih]
      congr 1
      omega
  intro l
  cases l with
  | nil => rfl
  | cons x l =>
    show D.int ((l.map fun (n : Nat) => (n : Int)).foldl max (x : Int)) = .int (((x :: l).foldl max 0 : Nat) : Int)
    rw [key, List.foldl_cons, Nat.zero_max]
theorem bestDD_min (m : Nat) : ∀ l : List Nat, (∀ x ∈ l, x ≤ m) → bestDD min (.int (m : Int)) (l.map fun (n : Nat) => (n : Int)) = .int ((l.foldl min m : Nat) : Int) := by
  have key : ∀ (l : List Nat) (a : Nat), (l.map fun (n : Nat) => (n : Int)).foldl min (a : Int) = ((l.foldl min a : Nat) : Int) := by
    intro l
    induction l with
    | nil => intro a; rfl
    | cons x l ih =>
      intro a
      rw [List.map_cons, List.foldl_cons, List.foldl_cons, ← ih]
      congr 1
      omega
  intro l hl
  cases l with
  | nil => rfl
  | cons x l =>
    show D.int ((l.map fun (n : Nat) => (n : Int)).foldl min (x : Int)) = .int (((x :: l).foldl min m : Nat) : Int)
    rw [key, List.foldl_cons, Nat.min_eq_right (hl x (by simp))]
def g_least_ahead : FA := fun ds C => ∃ d ws f, ds = [d, .int ((f : Nat) : Int)] ∧ Ws d ws ∧ ws.length ≤ 1000 ∧ C (.val (.int ((loN ws f : Nat) : Int)))
theorem rd_least_ahead : ∀ ds C, ds.length = 2 → g_least_ahead ds C → T_least_ahead { nx := fun _ => C (.val .non), rt := fun c _ => C c } (startA N_least_ahead ds) := by
  rintro ds C - ⟨d, ws, f, rfl, hd, hl, hC⟩
  have key : lcW [2, 3, 4] (hTup 3 (hCons (hName 2) (hCons (hName 3) (hCons (hName 4) hNil)))) (pAnd (pTest (pOp fEq (pVar 2) (pC (.str "cut")))) (pTest (pOp fLe (pVar 4) (pVar 1)))) (pOp fAdd (pVar 3) (pC (.int 1))) (fun acc ρ2 => ∃ ns, acc = ns.map D.int ∧ C (.val (bestDD max (.int 0) ns))) (wordsD ws) [] [some (.val d), some (.val (.int (f : Int))), none, none, none] := by
    refine lcW_words (p := fun w => w.1 && decide (w.2.2 ≤ f)) (f := fun w => .int (((w.2.1 + 1 : Nat)) : Int)) ws [] (fun w _ K hK => ?_) (by simpa using hl) ?_
    · refine ⟨rfl, rfl, sh_word' w.1, sh_cut, ?_⟩
      refine ifB (fun h => ?_) (fun h => ?_)
      · have h : w.1 = true := by rw [show (D.str (wordS w.1)).eqv (.str "cut") = _ from eqv_words' w.1 true] at h; simpa using h
        have := hK [some (.val d), some (.val (.int (f : Int))), some (.val (.str (wordS w.1))), some (.val (.int ((w.2.1 : Nat) : Int))), some (.val (.int ((w.2.2 : Nat) : Int)))] rfl fun _ K2 hK2 => hK2 _ rfl
        rw [h] at this
        show K (decide (((w.2.2 : Nat) : Int) ≤ (f : Int))) _
        rw [bl_le, h]
        exact this
      · have h : w.1 = false := by rw [show (D.str (wordS w.1)).eqv (.str "cut") = _ from eqv_words' w.1 true] at h; simpa using h
        have := hK [some (.val d), some (.val (.int (f : Int))), some (.val (.str (wordS w.1))), some (.val (.int ((w.2.1 : Nat) : Int))), some (.val (.int ((w.2.2 : Nat) : Int)))] rfl fun _ K2 hK2 => hK2 _ rfl
        rw [h] at this
        rw [h]
        exact this
    · refine ⟨((ws.filter fun w => w.1 && decide (w.2.2 ≤ f)).map fun w => w.2.1 + 1).map fun (n : Nat) => (n : Int), ?_, ?_⟩
      · rw [List.nil_append, List.map_map, List.map_map]; rfl
      · rw [bestDD_max]; exact hC
  rcases hd with rfl | rfl <;> exact key
def g_most_ahead : FA := fun ds C => ∃ d cuts e ws f, ds = [d, e, .int ((f : Nat) : Int)] ∧ Sq d cuts ∧ Ws e ws ∧ ws.length ≤ 1000 ∧ (∀ w ∈ ws, w.2.1 < cuts.length) ∧ C (.val (.int ((hiN cuts.length ws f : Nat) : Int)))
theorem rd_most_ahead : ∀ ds C, ds.length = 3 → g_most_ahead ds C → T_most_ahead { nx := fun _ => C (.val .non), rt := fun c _ => C c } (startA N_most_ahead ds) := by
  rintro ds C - ⟨d, cuts, e, ws, f, rfl, hd, he, hl, hw, hC⟩
  have key : ∀ Q : List D → Ro → Prop, Q ((ws.filter fun w => !w.1 && decide (f ≤ w.2.2)).map fun w => .int ((w.2.1 : Nat) : Int)) [some (.val d), some (.val e), some (.val (.int (f : Int))), none, none, none] → lcW [3, 4, 5] (hTup 3 (hCons (hName 3) (hCons (hName 4) (hCons (hName 5) hNil)))) (pAnd (pTest (pOp fEq (pVar 3) (pC (.str "fill")))) (pTest (pOp fGe (pVar 5) (pVar 2)))) (pVar 4) Q (wordsD ws) [] [some (.val d), some (.val e), some (.val (.int (f : Int))), none, none, none] := by
    intro Q hQ
    refine lcW_words (p := fun w => !w.1 && decide (f ≤ w.2.2)) (f := fun w => .int ((w.2.1 : Nat) : Int)) ws [] (fun w _ K hK => ?_) (by simpa using hl) (by rw [List.nil_append]; exact hQ)
    refine ⟨rfl, rfl, sh_word' w.1, sh_fill, ?_⟩
    refine ifB (fun h => ?_) (fun h => ?_)
    · have h : w.1 = false := by rw [show (D.str (wordS w.1)).eqv (.str "fill") = _ from eqv_words' w.1 false] at h; simpa using h
      have := hK [some (.val d), some (.val e), some (.val (.int (f : Int))), some (.val (.str (wordS w.1))), some (.val (.int ((w.2.1 : Nat) : Int))), some (.val (.int ((w.2.2 : Nat) : Int)))] rfl fun _ K2 hK2 => hK2 _ rfl
      rw [h] at this
      show K (decide ((f : Int) ≤ ((w.2.2 : Nat) : Int))) _
      rw [bl_le, h]
      exact this
    · have h : w.1 = true := by rw [show (D.str (wordS w.1)).eqv (.str "fill") = _ from eqv_words' w.1 false] at h; simpa using h
      have := hK [some (.val d), some (.val e), some (.val (.int (f : Int))), some (.val (.str (wordS w.1))), some (.val (.int ((w.2.1 : Nat) : Int))), some (.val (.int ((w.2.2 : Nat) : Int)))] rfl fun _ K2 hK2 => hK2 _ rfl
      rw [h] at this
      rw [h]
      exact this
  have fin : C (.val (bestDD min (.int (((dI cuts).length : Nat) : Int)) (((ws.filter fun w => !w.1 && decide (f ≤ w.2.2)).map fun w => w.2.1).map fun (n : Nat) => (n : Int)))) := by
    rw [ints_len, bestDD_min]
    · exact hC
    · intro x hx
      obtain ⟨w, hm, rfl⟩ := List.mem_map.mp hx
      exact Nat.le_of_lt (hw w (List.mem_filter.mp hm).1)
  have e1 : ((ws.filter fun w => !w.1 && decide (f ≤ w.2.2)).map fun w => D.int ((w.2.1 : Nat) : Int)) = (((ws.filter fun w => !w.1 && decide (f ≤ w.2.2)).map fun w => w.2.1).map fun (n : Nat) => (n : Int)).map D.int := by
    rw [List.map_map, List.map_map]; rfl
  rcases hd with rfl | rfl <;> rcases he with rfl | rfl
  all_goals exact key _ ⟨_, e1, fin⟩
def bndL (m n : Nat) (ws : List Wo) : List (Nat × Nat) := (List.range' 0 n).map fun f => (loN ws f, hiN m ws f)
def bndD (b : Nat × Nat) : D := .tup [.int ((b.1 : Nat) : Int), .int ((b.2 : Nat) : Int)]
def g_bounds : FA := fun ds C => ∃ d cuts e fills k ws, ds = [d, e, k] ∧ Sq d cuts ∧ Sq e fills ∧ Ws k ws ∧ NoClash ws ∧ ws.length ≤ 1000 ∧ fills.length ≤ 900 ∧ InB cuts.length fills.length ws ∧ ∀ p, C (.own p ((bndL cuts.length fills.length ws).map bndD))
end Pl
namespace Pl
open PySem PySem.Spec PyProof.Rows L2
theorem str_ext {a b : Str} (h : a.cps.toList = b.cps.toList) : a = b := by
  obtain ⟨x⟩ := a
  obtain ⟨y⟩ := b
  have : x = y := Array.toList_inj.mp h
  rw [this]
theorem lit_c : ("c" : Str) = ⟨#[99]⟩ := by decide +kernel
theorem lit_f : ("f" : Str) = txt [false] := by decide +kernel
theorem lit_e : ("" : Str) = ⟨#[]⟩ := by decide +kernel
theorem mul_c (n : Nat) : Txt.mul ("c" : Str) ((n : Nat) : Int) = txt (List.replicate n true) := by
  refine str_ext ?_
  rw [lit_c, mul_one_list]
  show List.replicate (Int.toNat (n : Int)) 99 = (List.replicate n true).map sg
  rw [List.map_replicate, Int.toNat_natCast]; rfl
theorem join_txt : ∀ os : List (List Bool), Txt.join ("" : Str) (os.map txt) = txt os.flatten := by
  intro os
  rw [TL.join_eq]
  induction os with
  | nil => rfl
  | cons o os ih =>
    cases os with
    | nil =>
      show txt o = txt (o ++ [])
      rw [List.append_nil]
    | cons p os =>
      show txt o ++ ("" : Str) ++ Str.join "" ((p :: os).map txt) = txt (o ++ (p :: os).flatten)
      rw [ih, ← txt_append]
      refine str_ext ?_
      rw [lit_e]
      show ((txt o).cps ++ #[] ++ (txt (p :: os).flatten).cps).toList = ((txt o).cps ++ (txt (p :: os).flatten).cps).toList
      simp
def dN (as : List Nat) : List D := as.map fun (a : Nat) => D.int (a : Int)
def partsW (d : Nat) : List Nat → List (List Bool)
  | [] => []
  | a :: as => (List.replicate (a - d) true ++ [false]) :: partsW a as
def lastW (d : Nat) : List Nat → Nat
  | [] => d
  | a :: as => lastW a as
theorem parts_ord (m : Nat) : ∀ (as : List Nat) (d : Nat), (partsW d as).flatten ++ List.replicate (m - lastW d as) true = ordW d as m
  | [], d => rfl
  | a :: as, d => by
    show (List.replicate (a - d) true ++ [false] ++ (partsW a as).flatten) ++ List.replicate (m - lastW a as) true = List.replicate (a - d) true ++ false :: ordW a as m
    rw [← parts_ord m as a]; simp
theorem ordW_len {m d : Nat} {as : List Nat} (h : Rise m d as) : (ordW d as m).length = m - d + as.length := by rw [← cT_cF, ordW_cT h, ordW_cF]
def g_order_with : FA := fun ds C => ∃ as m, ds = [.lst (dN as), .int ((m : Nat) : Int)] ∧ Rise m 0 as ∧ m ≤ 900 ∧ as.length ≤ 900 ∧ C (.val (.str (txt (ordW 0 as m))))
theorem rd_order_with : ∀ ds C, ds.length = 2 → g_order_with ds C → T_order_with { nx := fun _ => C (.val .non), rt := fun c _ => C c } (startA N_order_with ds) := by
  rintro ds C - ⟨as, m, rfl, hr, hm, hl, hC⟩
  have hr' := hr
  have len1 : ("c" : Str).length ≤ 10 := by rw [lit_c]; decide
  refine ⟨by show (0 : Nat) ≤ sizeLine; decide, fun b => ?_⟩
  refine for_inv (fun ds ρ => ∃ (ps : List (List Bool)) (d : Nat) (rest : List Nat) (w : Option Cell), ds = dN rest ∧ ρ = [some (.val (.lst (dN as))), some (.val (.int (m : Int))), some (.own b (ps.map fun p => .str (txt p))), some (.val (.int (d : Int))), w] ∧ Rise m d rest ∧ ps ++ partsW d rest = partsW 0 as ∧ lastW d rest = lastW 0 as ∧ ps.length + rest.length = as.length) (fun x r ρ K hK hI => ?_) (fun ρ hI => ?_) _ _ ⟨[], 0, as, none, rfl, rfl, hr, rfl, rfl, by simp⟩
  · obtain ⟨ps, d, rest, w, e1, rfl, hr, e2, e3, e4⟩ := hI
    cases rest with
    | nil => cases e1
    | cons a rest =>
      cases e1
      have e4 : ps.length + (rest.length + 1) = as.length := e4
      have ham := hr.2.le
      have had := hr.1
      have e5 : ((a : Nat) : Int) - ((d : Nat) : Int) = ((a - d : Nat) : Int) := by omega
      refine ⟨mulOk_small len1 (by omega) (by omega), ?_⟩
      rw [e5, mul_c]
      refine ⟨sl1000 ?_, _, rfl, small1000 (by rw [List.length_map]; omega), ?_⟩
      · rw [lit_f, txt_len, txt_len, List.length_replicate]; show a - d + 1 ≤ 1000; omega
      rw [lit_f, txt_append]
      refine hK _ ⟨ps ++ [List.replicate (a - d) true ++ [false]], a, rest, some (.val (.int (a : Int))), rfl, ?_, hr.2, ?_, e3, by simp; omega⟩
      · rw [List.map_append]; rfl
      · rw [← e2]; simp [partsW]
  · obtain ⟨ps, d, rest, w, e1, rfl, hr, e2, e3, e4⟩ := hI
    cases rest with
    | cons a rest => cases e1
    | nil =>
      have e3 : d = lastW 0 as := e3
      rw [show partsW d [] = [] from rfl, List.append_nil] at e2
      have hd : d ≤ m := hr
      have e5 : ((m : Nat) : Int) - ((d : Nat) : Int) = ((m - d : Nat) : Int) := by omega
      have e4 : ps.length + 0 = as.length := e4
      refine ⟨mulOk_small len1 (by omega) (by omega), ?_⟩
      rw [e5, mul_c]
      refine ⟨_, rfl, small1000 (by rw [List.length_map]; omega), ?_⟩
      have e6 : (ps.map fun p => D.str (txt p)) ++ [.str (txt (List.replicate (m - d) true))] = ((ps ++ [List.replicate (m - d) true]).map txt).map D.str := by
        rw [List.map_map, List.map_append]; rfl
      refine ⟨(ps ++ [List.replicate (m - d) true]).map txt, e6, ?_, ?_⟩
      · have hs : (((ps ++ [List.replicate (m - d) true]).map txt).map (·.length)).sum = (ordW 0 as m).length := by
          rw [← parts_ord m as 0, ← e3, ← e2, List.map_map]
          have : ∀ os : List (List Bool), (os.map ((·.length) ∘ txt)).sum = os.flatten.length := by
            intro os
            induction os with
            | nil => rfl
            | cons o os ih =>
              rw [List.map_cons, List.sum_cons, ih, List.flatten_cons, List.length_append]
              show (txt o).length + _ = _
              rw [txt_len]
          rw [this, List.flatten_append, List.length_append, List.length_append]
          simp
        rw [hs, ordW_len hr']
        have : ("" : Str).length = 0 := by rw [lit_e]; rfl
        rw [this]
        omega
      · rw [join_txt]
        have : (ps ++ [List.replicate (m - d) true]).flatten = ordW 0 as m := by
          rw [← parts_ord m as 0, ← e3, ← e2, List.flatten_append]; simp
        rw [this]
        exact hC
end Pl
namespace Pl
open PySem PySem.Spec PyProof.Rows L2
theorem lcW_bnds {vs : List Nat} {g : TGp} {te : TEp} {Q : List D → Ro → Prop} {h : Nat × Nat → D} {ρ : Ro} : ∀ (bs : List (Nat × Nat)) (acc : List D), (∀ b ∈ bs, ElemOk vs g te ρ (bndD b) (h b)) → acc.length + bs.length ≤ 1000 → Q (acc ++ bs.map h) ρ → lcW vs g pYes te Q (bs.map bndD) acc ρ
  | [], acc, _, _, hQ => by
    have hQ : Q (acc ++ []) ρ := hQ
    rw [List.append_nil] at hQ
    exact hQ
  | b :: bs, acc, hs, hl, hQ => by
    have hl' : acc.length + (bs.length + 1) ≤ 1000 := hl
    refine hs b (by simp) _ fun ρ4 e => ⟨small1000 (by omega), ?_⟩
    rw [e]
    refine lcW_bnds bs _ (fun x hx => hs x (by simp [hx])) (by rw [List.length_append]; show acc.length + 1 + bs.length ≤ 1000; omega) ?_
    rw [List.append_assoc]
    exact hQ
structure Bk (d : D) (cuts : List Int) (e : D) (fills : List Int) (k : D) (ws : List Wo) : Prop where
  c : Sq d cuts
  f : Sq e fills
  w : Ws k ws
  no : NoClash ws
  l : ws.length ≤ 1000
  cl : cuts.length ≤ 400
  fl : fills.length ≤ 400
  b : InB cuts.length fills.length ws
theorem bnd_hi (m n : Nat) (ws : List Wo) : (bndL m n ws).map (fun b => D.int ((b.2 : Nat) : Int)) = dN (hiL m n ws) := by unfold bndL hiL dN; rw [List.map_map, List.map_map]; rfl
theorem bnd_lo (m n : Nat) (ws : List Wo) : (bndL m n ws).map (fun b => D.int ((b.1 : Nat) : Int)) = dN (loL n ws) := by unfold bndL loL dN; rw [List.map_map, List.map_map]; rfl
theorem bnd_len (m n : Nat) (ws : List Wo) : (bndL m n ws).length = n := by simp [bndL]
theorem hiL_len (m n : Nat) (ws : List Wo) : (hiL m n ws).length = n := by simp [hiL]
theorem loL_len (n : Nat) (ws : List Wo) : (loL n ws).length = n := by simp [loL]
def g_least_order : FA := fun ds C => ∃ d cuts e fills k ws, ds = [d, e, k] ∧ Bk d cuts e fills k ws ∧ C (.val (.str (txt (ordW 0 (hiL cuts.length fills.length ws) cuts.length))))
def g_greatest_order : FA := fun ds C => ∃ d cuts e fills k ws, ds = [d, e, k] ∧ Bk d cuts e fills k ws ∧ C (.val (.str (txt (ordW 0 (loL fills.length ws) cuts.length))))
def stL (l cuts fills : List Int) (o : List Bool) : List Int := behindL l (almL cuts fills 0 0 o)
def loSt (l cuts fills : List Int) (ws : List Wo) : List Int := stL l cuts fills (ordW 0 (hiL cuts.length fills.length ws) cuts.length)
def hiSt (l cuts fills : List Int) (ws : List Wo) : List Int := stL l cuts fills (ordW 0 (loL fills.length ws) cuts.length)
theorem stL_len (l cuts fills : List Int) (o : List Bool) : (stL l cuts fills o).length = l.length := behindL_len _ _
def g_may_stand : FA := fun ds C => ∃ a l d cuts e fills k ws, ds = [a, d, e, k] ∧ Sq a l ∧ l ≠ [] ∧ l.length ≤ 1000 ∧ Bk d cuts e fills k ws ∧ C (.val (.tup [tD (loSt l cuts fills ws), tD (hiSt l cuts fills ws)]))
def sureL (k : Nat) : List Int → List Int → List Int
  | x :: a, y :: b => if x = y then (k : Int) :: sureL (k + 1) a b else sureL (k + 1) a b
  | _, _ => []
theorem sureL_len : ∀ (a b : List Int) (k : Nat), (sureL k a b).length ≤ a.length
  | [], _, _ => by simp [sureL]
  | _ :: _, [], _ => by simp [sureL]
  | x :: a, y :: b, k => by
    have := sureL_len a b (k + 1)
    unfold sureL
    split <;> simp <;> omega
def g_sure_posts : FA := fun ds C => ∃ a l d cuts e fills k ws, ds = [a, d, e, k] ∧ Sq a l ∧ l ≠ [] ∧ l.length ≤ 1000 ∧ Bk d cuts e fills k ws ∧ ∀ p, C (.own p (dI (sureL 0 (loSt l cuts fills ws) (hiSt l cuts fills ws))))
end Pl
namespace Pl
open PySem PySem.Spec PyProof.Rows L2
variable [TJ]
theorem Sim.moreG {K : PySem.W.Frag} {G F H : Hp} {σ : L2.St} {ρ : Ro} (S : Sim K G F H σ ρ) {a : Addr} {vs : List V} (hH : H a = some (.lst vs)) (hG : G a = none) (hn : NotOwn ρ a) : Sim K (upd G a (.lst vs)) F H σ ρ := by
  refine ⟨S.hF, S.hG.guard hH, S.len, S.val, fun i b xs e => ?_, S.ne, S.bx.guard hn.2⟩
  · obtain ⟨h1, h2, h3, h4⟩ := S.own i b xs e
    have q : b ≠ a := fun z => by subst z; exact hn.1 i xs e
    exact ⟨h1, h2, by rw [upd_ne q]; exact h3, h4⟩
theorem Sim.lessG {K : PySem.W.Frag} {G G' F H : Hp} {σ : L2.St} {ρ : Ro} (S : Sim K G' F H σ ρ) (h : Same G G') : Sim K G F H σ ρ :=
  ⟨S.hF, S.hG.less h, S.len, S.val, fun i b xs e => let ⟨h1, h2, h3, h4⟩ := S.own i b xs e; ⟨h1, h2, h.free h3, h4⟩, S.ne, S.bx.unguard h⟩
theorem Sim.mid {K : PySem.W.Frag} {G F H : Hp} {σ : L2.St} {ρ : Ro} {u v : V} {b c : Cell} (S : Sim K G F H ((σ ++ [some u]) ++ [some v]) ((ρ ++ [some b]) ++ [some c])) : Sim K G F H (σ ++ [some v]) (ρ ++ [some c]) := by
  have B := S.drop.drop
  cases c with
  | val d => exact B.pushVal S.lastVal
  | own a xs =>
    obtain ⟨rfl, h2, h3, h4, vs, h5, h6⟩ := S.lastOwn
    refine B.pushOwn h5 h2 h3 ⟨fun i ys e => h4.1 i ys (at_more e), fun ⟨i, t, e, m⟩ => h4.2 ⟨i, t, at_more e, m⟩⟩ h6
  | box s =>
    obtain ⟨rfl, h2, h3, h4⟩ := S.lastBox
    exact B.pushBox h2 h3 fun p m => ⟨fun i ys e => (h4 p m).1 i ys (at_more e), fun ⟨i, t, e, m'⟩ => (h4 p m).2 ⟨i, t, at_more e, m'⟩⟩
section
variable {X : Cx} {k : Nat} {f : Addr} {fd : FuncData} {ps : List Str} {x : Str} {p pos : Pos} {e : Expr} {es : List Expr} {te : TE} {Tc : TCp} {t : TA} {T : TAp} {n : Nat}
def pCallX (n : Nat) (g : FB) (Tc : TCp) (T : TAp) : TCp := fun ρ Q => Tc ρ fun c ρ1 => match c with
  | .own _ xs => T ρ1 fun ds ρ2 => ds.length + 1 = n ∧ g xs ds fun c' _ => Q c' ρ2
  | .val _ => False
  | .box _ => False
theorem ppc_callX {g : FB} (Fn : FnOk X.prog X.w X.K X.mg X.base CX0 k f fd ps (spB X.K n g)) (hr : Room k X.A) (hg : Gl X x) (hm : X.mg x = some (.ref f)) (hk : PySem.W.keepIn X.K (.ref f) = true) (hb : Binds X.K fd ps []) (hc : PPC X e te Tc) (ha : PPA X es t T)
    (hdb : (x == ("__debug__" : Str)) = false := by decide) (he : starEach (e :: es) X.env = (false, eval e X.env) :: starEach es X.env := by rfl) (hpl : (backTo pos (starEach es X.env)).any (·.1) = false := by rfl) :
    PPC X (.Call (.Name x p) (e :: es) [] pos) (tCall (spB X.K n g) [] (fun _ _ _ => False) (tCons te t)) (pCallX n g Tc T) := ⟨pe_call Fn hr hg hm hk hb .nil pass0 (pa_cons hc.pe ha.pa he) hdb he hpl, fun G F H σ ρ Q R S hT k =>
  hc.snd G F H σ ρ _ _ S hT fun v c F1 H1 ρ1 u1 S1 q1 => by
    cases c with
    | val d => exact q1.elim
    | box s => exact q1.elim
    | own a xs =>
      obtain ⟨rfl, h2, h3, h4, us, h5, h6⟩ := S1.lastOwn
      have sG : Same G (upd G a (.lst us)) := same_new h3
      refine ha.snd (upd G a (.lst us)) F1 H1 σ ρ1 _ _ (S1.drop.moreG h5 h3 h4) q1 fun vs ds F2 H2 ρ2 u2 S2 r2 q2 => ?_
      have hH2 : H2 a = some (.lst us) := S2.hG a _ upd_same
      have hF2 : F2 a = none := u2.isNone h2 upd_same
      have hn2 : NotOwn ρ2 a := ⟨fun i ys z => (by
        obtain ⟨_, _, g3, _⟩ := S2.own i a ys z
        rw [upd_same] at g3; cases g3), S2.bx.notG upd_same⟩
      have S3 := (S2.lessG sG).pushOwn hH2 hF2 h3 hn2 (h6.mono u2.ex)
      show spB X.K n g ((.ref a :: vs) ++ []) H2 R _
      rw [List.append_nil]
      refine ⟨F2, a, us, xs, vs, ds, _, rfl, by rw [List.length_cons, r2.length]; exact q2.1, S2.hF, hF2, hH2, h6.mono u2.ex, r2, q2.2, fun v c xs' F' H' u S' q => ?_⟩
      have hGh : Same G (hide H2 a) := fun b o qq => by
        have nb : b ≠ a := fun z => by rw [z, h3] at qq; cases qq
        rw [hide_ne nb]; exact S2.hG b o (sG b o qq)
      have S4 := S3.afterB (xs := xs) (i := ρ2.length) (by simp) u S'
      rw [show (ρ2 ++ [some (Cell.own a xs)]).set ρ2.length (some (.own a xs')) = ρ2 ++ [some (.own a xs')] by simp] at S4
      exact k v c F' H' ρ2 ((u1.trans (u2.less sG)).trans (u.less hGh)) S4.mid q⟩
end
end Pl
namespace Pl
open PySem PySem.Spec PyProof.Rows L2
section
variable {α β : Type} {vs : List Nat} {g : TGp} {tt : TTp} {te : TEp} {tb : TSp} {P : PEnds} {Q : List D → Ro → Prop} {ρ : Ro}
theorem lc_mp {ds : List D} (xs : List α) (d f : α → D) (e : ds = xs.map d) (h : ∀ x ∈ xs, ElemOk vs g te ρ (d x) (f x)) (hl : xs.length ≤ 1000) (hQ : Q (xs.map f) ρ) : lcW vs g pYes te Q ds [] ρ := by
  subst e
  exact lcW_mapS xs [] h (by rw [List.length_nil, Nat.zero_add]; exact sl1000 hl) hQ
theorem rangeD_nat (n : Nat) : rangeD 0 n = (List.range n).map fun (j : Nat) => D.int (j : Int) := by
  unfold rangeD
  apply List.map_congr_left
  intro j _
  rw [Int.zero_add]
theorem lc_rg {m : Nat} (n : Nat) (f : Nat → D) (e : m = n) (h : ∀ j, j < n → ElemOk vs g te ρ (.int (j : Int)) (f j)) (hl : n ≤ 1000) (hQ : Q ((List.range n).map f) ρ) : lcW vs g pYes te Q (rangeD 0 m) [] ρ :=
  lc_mp (List.range n) (fun (j : Nat) => .int (j : Int)) f (by rw [e, rangeD_nat]) (fun j hj => h j (List.mem_range.mp hj)) (by simpa using hl) hQ
theorem forW_mp : ∀ (xs : List α) (d : α → D) (ρ : Ro) (I : List α → Ro → Prop), I xs ρ → (∀ (x : α) (r : List α) (ρ : Ro) (K : Ro → Prop), I (x :: r) ρ → (∀ ρ', I r ρ' → K ρ') → g (d x) ρ fun ρ1 => tb { P with nx := K, ct := K, bk := P.nx } ρ1) → (∀ ρ, I [] ρ → P.nx ρ) → forW g tb P (xs.map d) ρ
  | [], d, ρ, I, h, _, he => he ρ h
  | x :: xs, d, ρ, I, h, hs, he => hs x xs ρ _ h fun ρ' h' => forW_mp xs d ρ' I h' hs he
theorem fr_mp {ds : List D} (xs : List α) (d : α → D) (I : List α → Ro → Prop) (e : ds = xs.map d) (h0 : I xs ρ) (hs : ∀ (x : α) (r : List α) (ρ : Ro) (K : Ro → Prop), I (x :: r) ρ → (∀ ρ', I r ρ' → K ρ') → g (d x) ρ fun ρ1 => tb { P with nx := K, ct := K, bk := P.nx } ρ1) (he : ∀ ρ, I [] ρ → P.nx ρ) : forW g tb P ds ρ := by
  subst e
  exact forW_mp xs d ρ I h0 hs he
theorem forW_rg (I : Nat → Ro → Prop) (n : Nat) (hs : ∀ (j : Nat) (ρ : Ro) (K : Ro → Prop), j < n → I j ρ → (∀ ρ', I (j + 1) ρ' → K ρ') → g (.int (j : Int)) ρ fun ρ1 => tb { P with nx := K, ct := K, bk := P.nx } ρ1) (he : ∀ ρ, I n ρ → P.nx ρ) : ∀ (k j : Nat) (ρ : Ro), k + j = n → I j ρ → forW g tb P ((List.range' j k).map fun (j : Nat) => D.int (j : Int)) ρ
  | 0, j, ρ, e, h => he ρ (by rw [← e, Nat.zero_add]; exact h)
  | k + 1, j, ρ, e, h => by
    rw [List.range'_succ, List.map_cons]
    exact hs j ρ _ (by omega) h fun ρ' h' => forW_rg I n hs he k (j + 1) ρ' (by omega) h'
theorem fr_rg {m : Nat} (n : Nat) (I : Nat → Ro → Prop) (e : m = n) (h0 : I 0 ρ) (hs : ∀ (j : Nat) (ρ : Ro) (K : Ro → Prop), j < n → I j ρ → (∀ ρ', I (j + 1) ρ' → K ρ') → g (.int (j : Int)) ρ fun ρ1 => tb { P with nx := K, ct := K, bk := P.nx } ρ1) (he : ∀ ρ, I n ρ → P.nx ρ) : forW g tb P (rangeD 0 m) ρ := by
  subst e
  rw [rangeD_nat, List.range_eq_range']
  exact forW_rg I m hs he m 0 ρ (by omega) h0
end
end Pl
namespace Pl
open PySem PySem.Spec PyProof.Rows L2
variable [TJ]
def isOwn (ρ : Ro) (b : Addr) : Prop := ∃ (i : Nat) (xs : List D), ρ[i]? = some (some (.own b xs))
theorem CellOk.more {K : PySem.W.Frag} {G F H : Hp} {ρ : Ro} {v : V} {c : Cell} {p : Addr} {o : HO} (h : CellOk K G F H ρ v c) (hp : H p = none) : CellOk K G F (upd H p o) ρ v c := by
  cases c with
  | val d => exact h
  | own q xs =>
    obtain ⟨h1, h2, h3, h4, us, h5, h6⟩ := h
    exact ⟨h1, h2, h3, h4, us, by rw [upd_ne (ne_of_none h5 hp)]; exact h5, h6⟩
  | box s => exact h
end Pl
namespace Pl
open PySem PySem.Spec PyProof.Rows L2
abbrev N_own_copy : List Str := [("thing" : Str), ("part" : Str)]
def T_own_copy (g_own_copy : FA) : TSp :=
  (pSeq (pIfS (pTest (pIsi D.isLst (pVar 0)))
    (pRet (pLcO (jSeq (pVar 0)) (hName 1) pYes (pFrz (pCallA 1 g_own_copy (pCons (pVar 1) pNil))) [1]))
    pNext)
    (pSeq (pIfS (pTest (pIsi D.isTup (pVar 0)))
    (pRet (pVal (pCB fTup (pCons (pLc (jSeq (pVar 0)) (hName 1) pYes (pFrz (pCallA 1 g_own_copy (pCons (pVar 1) pNil))) [1]) pNil))))
    pNext)
    (pRet (pMove 0))))
abbrev N__law_orders : List Str := [("_law_cuts" : Str), ("_law_fills" : Str), ("_law_text" : Str)]
def T__law_orders (g__law_orders : FA) : TSp :=
  (pSeq (pIfS (pOr (pTest (pOp fEq (pVar 0) (pC (.int 0)))) (pTest (pOp fEq (pVar 1) (pC (.int 0)))))
    (pRet (pLstO (pCons (pOp fAdd (pOp fMulS (pC (.str "c")) (pVar 0)) (pOp fMulS (pC (.str "f")) (pVar 1))) pNil)))
    pNext)
    (pRet (pCatO (pLc (jSeq (pFrz (pCallA 2 g__law_orders (pCons (pOp fSub (pVar 0) (pC (.int 1))) (pCons (pVar 1) pNil))))) (hName 2) pYes (pOp fAdd (pC (.str "c")) (pVar 2)) [2]) (pLc (jSeq (pFrz (pCallA 2 g__law_orders (pCons (pVar 0) (pCons (pOp fSub (pVar 1) (pC (.int 1))) pNil))))) (hName 2) pYes (pOp fAdd (pC (.str "f")) (pVar 2)) [2]))))
end Pl
namespace Pl
open PySem PySem.Spec PyProof.Rows L2
abbrev EA (C : Cell → Prop) : PEnds := { nx := fun _ => C (.val .non), rt := fun c _ => C c }
end Pl
namespace Pl
open PySem PySem.Spec PyProof.Rows L2
abbrev EB (a : Addr) (C : Cell → List D → Prop) : PEnds := { nx := fun ρ => ∃ ys, ρ[0]? = some (some (.own a ys)) ∧ C (.val .non) ys, rt := fun c ρ => ∃ ys, ρ[0]? = some (some (.own a ys)) ∧ C c ys }
end Pl
namespace Pl
open PySem PySem.Spec PyProof.Rows L2
def fs : List Wd → Int → Option Bool
  | [], _ => none
  | w :: ws, t => if w.2 ≤ t then some w.1 else fs ws t
theorem fs_pos {w : Wd} {ws : List Wd} {t : Int} (h : w.2 ≤ t) : fs (w :: ws) t = some w.1 := if_pos h
theorem fs_neg {w : Wd} {ws : List Wd} {t : Int} (h : ¬ w.2 ≤ t) : fs (w :: ws) t = fs ws t := if_neg h
def cnt (b : Bool) (ws : List Wd) : Nat → Nat
  | 0 => 0
  | h + 1 => cnt b ws h + if fs ws (h : Int) = some b then 1 else 0
theorem cnt_cons (b : Bool) (c : Bool) (s : Nat) (ws : List Wd) : ∀ h : Nat, cnt b ((c, (s : Int)) :: ws) h = cnt b ws (min s h) + if c = b then h - min s h else 0
  | 0 => by simp [cnt]
  | h + 1 => by
    rw [cnt, cnt_cons b c s ws h]
    by_cases q : s ≤ h
    · rw [fs_pos (show ((c, (s : Int)) : Wd).2 ≤ (h : Int) by show (s : Int) ≤ h; omega), show min s h = s by omega, show min s (h + 1) = s by omega]
      show _ + (if some c = some b then 1 else 0) = _
      by_cases e : c = b
      · rw [if_pos e, if_pos e, if_pos (by rw [e])]; omega
      · rw [if_neg e, if_neg e, if_neg (fun z => e (Option.some.inj z))]
    · rw [fs_neg (show ¬ ((c, (s : Int)) : Wd).2 ≤ (h : Int) by show ¬ (s : Int) ≤ h; omega), show min s h = h by omega, show min s (h + 1) = h + 1 by omega, cnt]
      simp
def slL (ws : List Wd) : List Int := ws.map (·.2)
def parts (a b : List Wd) : List Int := (slL (a ++ b)).filter fun s => !(decide (fs a s = fs b s))
end Pl
namespace Pl
open PySem PySem.Spec PyProof.Rows L2
def AmW (a : D) (ws : List Wd) : Prop := ∃ ps : List (D × Wd), (a = .lst (ps.map Prod.fst) ∨ a = .tup (ps.map Prod.fst)) ∧ (∀ p ∈ ps, Wn p.1 p.2.1 p.2.2) ∧ ps.map Prod.snd = ws
theorem Am.w {a : D} {ws : List Wd} (h : Am a ws) : AmW a ws := by
  refine ⟨ws.map fun w => (windD w.1 w.2, w), ?_, fun p hp => ?_, by rw [List.map_map]; exact List.map_id' ws⟩
  · rcases h with rfl | rfl
    · exact .inl (by rw [List.map_map]; rfl)
    · exact .inr (by rw [List.map_map]; rfl)
  · obtain ⟨w, _, rfl⟩ := List.mem_map.mp hp
    exact .inl rfl
theorem AmW.lst (ws : List Wd) : AmW (.lst (windsD ws)) ws := Am.w (.inl rfl)
end Pl
namespace Pl
open PySem PySem.Spec PyProof.Rows L2
def gRight : FB := fun xs ds C => ∃ m, m ≤ 10000000 ∧ Bx m xs ∧ ds = [] ∧ ∀ zs, Bx (m + 1000000) zs → C (.val (.bl true)) zs
abbrev vo (a : Addr) (zs : List D) : Option Cell := some (.own a zs)
end Pl
namespace Pl
open PySem PySem.Spec PyProof.Rows L2
def Pw (ws : List Wd) : Prop := ∀ w ∈ ws, 0 ≤ w.2
theorem Pw.take {ws : List Wd} (h : Pw ws) (j : Nat) : Pw (ws.take j) := fun w hw => h w (List.mem_of_mem_take hw)
theorem Pw.drop {ws : List Wd} (h : Pw ws) (j : Nat) : Pw (ws.drop j) := fun w hw => h w (List.mem_of_mem_drop hw)
theorem Pw.one {w : Wd} (h : 0 ≤ w.2) : Pw [w] := fun v hv => by rw [List.mem_singleton.mp hv]; exact h
end Pl
namespace Pl
open PySem PySem.Spec PyProof.Rows L2
theorem AmW.tup (ws : List Wd) : AmW (.tup (windsD ws)) ws := Am.w (.inr rfl)
end Pl
namespace Pl
open PySem PySem.Spec PyProof.Rows L2
def PwM (m : Int) (ws : List Wd) : Prop := ∀ w ∈ ws, 0 ≤ w.2 ∧ w.2 ≤ m
theorem PwM.take {m : Int} {ws : List Wd} (h : PwM m ws) (j : Nat) : PwM m (ws.take j) := fun w hw => h w (List.mem_of_mem_take hw)
theorem PwM.drop {m : Int} {ws : List Wd} (h : PwM m ws) (j : Nat) : PwM m (ws.drop j) := fun w hw => h w (List.mem_of_mem_drop hw)
theorem PwM.one {m : Int} {w : Wd} (h : 0 ≤ w.2 ∧ w.2 ≤ m) : PwM m [w] := fun v hv => by rw [List.mem_singleton.mp hv]; exact h
end Pl
namespace Pl
open PySem PySem.Spec PyProof.Rows L2
def wordR (w : Wo) : D := .lst [.str (wordS w.1), .int ((w.2.1 : Nat) : Int), .int ((w.2.2 : Nat) : Int)]
def wordsR (ws : List Wo) : List D := ws.map wordR
def WsR (d : D) (ws : List Wo) : Prop := d = .lst (wordsR ws) ∨ d = .tup (wordsR ws)
def g_are_contraryR : FA := fun ds C => ∃ u v, ds = [wordR u, wordR v] ∧ C (.val (.bl (contr u v)))
def g_least_aheadR : FA := fun ds C => ∃ d ws f, ds = [d, .int ((f : Nat) : Int)] ∧ WsR d ws ∧ ws.length ≤ 1000 ∧ C (.val (.int ((loN ws f : Nat) : Int)))
def g_most_aheadR : FA := fun ds C => ∃ d cuts e ws f, ds = [d, e, .int ((f : Nat) : Int)] ∧ Sq d cuts ∧ WsR e ws ∧ ws.length ≤ 1000 ∧ (∀ w ∈ ws, w.2.1 < cuts.length) ∧ C (.val (.int ((hiN cuts.length ws f : Nat) : Int)))
theorem rd_are_contraryR : ∀ ds C, ds.length = 2 → g_are_contraryR ds C → T_are_contrary { nx := fun _ => C (.val .non), rt := fun c _ => C c } (startA N_are_contrary ds) := by
  rintro ds C - ⟨⟨a, c, f⟩, ⟨a', c', f'⟩, rfl, hC⟩
  have h2 : (2 : Nat) ≤ sizeLine := by decide
  refine ⟨_, rfl, _, rfl, sh_word' a, sh_word' a', ?_⟩
  refine ifB (fun h => ?_) (fun h => ?_)
  · rw [show (D.str (wordS a)).eqv (.str (wordS a')) = _ from eqv_words' a a'] at h
    have h : a = a' := by simpa using h
    subst h
    have e : contr (a, c, f) (a, c', f') = false := by cases a <;> rfl
    rw [e] at hC
    exact hC
  · rw [show (D.str (wordS a)).eqv (.str (wordS a')) = _ from eqv_words' a a'] at h
    have h : a ≠ a' := by simpa using h
    refine ⟨_, rfl, sh_word' a, sh_cut, ?_⟩
    cases a with
    | true =>
      have e : a' = false := by cases a' <;> simp at h ⊢
      subst e
      refine ifT (show (D.str (wordS true)).eqv (.str (wordS true)) = true from eqv_words' true true) ⟨h2, rfl, rfl, ?_⟩
      have e : contr (true, c, f) (false, c', f') = (decide (c' ≤ c) && decide (f ≤ f')) := rfl
      rw [e] at hC
      refine ⟨_, rfl, _, rfl, ifB (fun q => ?_) (fun q => ?_)⟩
      · rw [bl_le] at q; rw [q] at hC
        refine ⟨_, rfl, _, rfl, ?_⟩
        show C (.val (.bl (decide (((f : Nat) : Int) ≤ ((f' : Nat) : Int)))))
        rw [bl_le]; exact hC
      · rw [bl_le] at q; rw [q] at hC; exact hC
    | false =>
      have e : a' = true := by cases a' <;> simp at h ⊢
      subst e
      refine ifF (show (D.str (wordS false)).eqv (.str (wordS true)) = false from eqv_words' false true) ⟨h2, rfl, rfl, ?_⟩
      have e : contr (false, c, f) (true, c', f') = (decide (c ≤ c') && decide (f' ≤ f)) := rfl
      rw [e] at hC
      refine ⟨_, rfl, _, rfl, ifB (fun q => ?_) (fun q => ?_)⟩
      · rw [bl_le] at q; rw [q] at hC
        refine ⟨_, rfl, _, rfl, ?_⟩
        show C (.val (.bl (decide (((f' : Nat) : Int) ≤ ((f : Nat) : Int)))))
        rw [bl_le]; exact hC
      · rw [bl_le] at q; rw [q] at hC; exact hC
theorem lcW_wordsR {vs : List Nat} {g : TGp} {tt : TTp} {te : TEp} {Q : List D → Ro → Prop} {p : Wo → Bool} {f : Wo → D} {ρ : Ro} : ∀ (ws : List Wo) (acc : List D),
    (∀ w ∈ ws, ∀ K : Bool → Ro → Prop, (∀ ρ3, restore ρ ρ3 vs = ρ → (p w = true → ∀ K2 : D → Ro → Prop, (∀ ρ4, restore ρ ρ4 vs = ρ → K2 (f w) ρ4) → te ρ3 K2) → K (p w) ρ3) → g (wordR w) (wipeP ρ vs) fun ρ2 => tt ρ2 K) → acc.length + ws.length ≤ 1000 → Q (acc ++ (ws.filter p).map f) ρ → lcW vs g tt te Q (wordsR ws) acc ρ
  | [], acc, _, _, hQ => by
    have hQ : Q (acc ++ []) ρ := hQ
    rw [List.append_nil] at hQ
    exact hQ
  | d :: ds, acc, h, hl, hQ => by
    have hl' : acc.length + (ds.length + 1) ≤ 1000 := hl
    refine h d (by simp) _ fun ρ3 e3 ht => ?_
    cases hp : p d with
    | true =>
      refine ite_ti (ht hp _ fun ρ4 e4 => ⟨small1000 (by omega), ?_⟩)
      rw [e4]
      refine lcW_wordsR ds _ (fun x hx => h x (by simp [hx])) (by rw [List.length_append]; show acc.length + 1 + ds.length ≤ 1000; omega) ?_
      rw [List.filter_cons_of_pos hp, List.map_cons] at hQ
      rw [List.append_assoc]
      exact hQ
    | false =>
      refine ite_fi ?_
      rw [e3]
      refine lcW_wordsR ds _ (fun x hx => h x (by simp [hx])) (by omega) ?_
      rw [List.filter_cons_of_neg (by rw [hp]; simp)] at hQ
      exact hQ
theorem rd_least_aheadR : ∀ ds C, ds.length = 2 → g_least_aheadR ds C → T_least_ahead { nx := fun _ => C (.val .non), rt := fun c _ => C c } (startA N_least_ahead ds) := by
  rintro ds C - ⟨d, ws, f, rfl, hd, hl, hC⟩
  have key : lcW [2, 3, 4] (hTup 3 (hCons (hName 2) (hCons (hName 3) (hCons (hName 4) hNil)))) (pAnd (pTest (pOp fEq (pVar 2) (pC (.str "cut")))) (pTest (pOp fLe (pVar 4) (pVar 1)))) (pOp fAdd (pVar 3) (pC (.int 1))) (fun acc ρ2 => ∃ ns, acc = ns.map D.int ∧ C (.val (bestDD max (.int 0) ns))) (wordsR ws) [] [some (.val d), some (.val (.int (f : Int))), none, none, none] := by
    refine lcW_wordsR (p := fun w => w.1 && decide (w.2.2 ≤ f)) (f := fun w => .int (((w.2.1 + 1 : Nat)) : Int)) ws [] (fun w _ K hK => ?_) (by simpa using hl) ?_
    · refine ⟨rfl, rfl, sh_word' w.1, sh_cut, ?_⟩
      refine ifB (fun h => ?_) (fun h => ?_)
      · have h : w.1 = true := by rw [show (D.str (wordS w.1)).eqv (.str "cut") = _ from eqv_words' w.1 true] at h; simpa using h
        have := hK [some (.val d), some (.val (.int (f : Int))), some (.val (.str (wordS w.1))), some (.val (.int ((w.2.1 : Nat) : Int))), some (.val (.int ((w.2.2 : Nat) : Int)))] rfl fun _ K2 hK2 => hK2 _ rfl
        rw [h] at this
        show K (decide (((w.2.2 : Nat) : Int) ≤ (f : Int))) _
        rw [bl_le, h]
        exact this
      · have h : w.1 = false := by rw [show (D.str (wordS w.1)).eqv (.str "cut") = _ from eqv_words' w.1 true] at h; simpa using h
        have := hK [some (.val d), some (.val (.int (f : Int))), some (.val (.str (wordS w.1))), some (.val (.int ((w.2.1 : Nat) : Int))), some (.val (.int ((w.2.2 : Nat) : Int)))] rfl fun _ K2 hK2 => hK2 _ rfl
        rw [h] at this
        rw [h]
        exact this
    · refine ⟨((ws.filter fun w => w.1 && decide (w.2.2 ≤ f)).map fun w => w.2.1 + 1).map fun (n : Nat) => (n : Int), ?_, ?_⟩
      · rw [List.nil_append, List.map_map, List.map_map]; rfl
      · rw [bestDD_max]; exact hC
  rcases hd with rfl | rfl <;> exact key
theorem rd_most_aheadR : ∀ ds C, ds.length = 3 → g_most_aheadR ds C → T_most_ahead { nx := fun _ => C (.val .non), rt := fun c _ => C c } (startA N_most_ahead ds) := by
  rintro ds C - ⟨d, cuts, e, ws, f, rfl, hd, he, hl, hw, hC⟩
  have key : ∀ Q : List D → Ro → Prop, Q ((ws.filter fun w => !w.1 && decide (f ≤ w.2.2)).map fun w => .int ((w.2.1 : Nat) : Int)) [some (.val d), some (.val e), some (.val (.int (f : Int))), none, none, none] → lcW [3, 4, 5] (hTup 3 (hCons (hName 3) (hCons (hName 4) (hCons (hName 5) hNil)))) (pAnd (pTest (pOp fEq (pVar 3) (pC (.str "fill")))) (pTest (pOp fGe (pVar 5) (pVar 2)))) (pVar 4) Q (wordsR ws) [] [some (.val d), some (.val e), some (.val (.int (f : Int))), none, none, none] := by
    intro Q hQ
    refine lcW_wordsR (p := fun w => !w.1 && decide (f ≤ w.2.2)) (f := fun w => .int ((w.2.1 : Nat) : Int)) ws [] (fun w _ K hK => ?_) (by simpa using hl) (by rw [List.nil_append]; exact hQ)
    refine ⟨rfl, rfl, sh_word' w.1, sh_fill, ?_⟩
    refine ifB (fun h => ?_) (fun h => ?_)
    · have h : w.1 = false := by rw [show (D.str (wordS w.1)).eqv (.str "fill") = _ from eqv_words' w.1 false] at h; simpa using h
      have := hK [some (.val d), some (.val e), some (.val (.int (f : Int))), some (.val (.str (wordS w.1))), some (.val (.int ((w.2.1 : Nat) : Int))), some (.val (.int ((w.2.2 : Nat) : Int)))] rfl fun _ K2 hK2 => hK2 _ rfl
      rw [h] at this
      show K (decide ((f : Int) ≤ ((w.2.2 : Nat) : Int))) _
      rw [bl_le, h]
      exact this
    · have h : w.1 = true := by rw [show (D.str (wordS w.1)).eqv (.str "fill") = _ from eqv_words' w.1 false] at h; simpa using h
      have := hK [some (.val d), some (.val e), some (.val (.int (f : Int))), some (.val (.str (wordS w.1))), some (.val (.int ((w.2.1 : Nat) : Int))), some (.val (.int ((w.2.2 : Nat) : Int)))] rfl fun _ K2 hK2 => hK2 _ rfl
      rw [h] at this
      rw [h]
      exact this
  have fin : C (.val (bestDD min (.int (((dI cuts).length : Nat) : Int)) (((ws.filter fun w => !w.1 && decide (f ≤ w.2.2)).map fun w => w.2.1).map fun (n : Nat) => (n : Int)))) := by
    rw [ints_len, bestDD_min]
    · exact hC
    · intro x hx
      obtain ⟨w, hm, rfl⟩ := List.mem_map.mp hx
      exact Nat.le_of_lt (hw w (List.mem_filter.mp hm).1)
  have e1 : ((ws.filter fun w => !w.1 && decide (f ≤ w.2.2)).map fun w => D.int ((w.2.1 : Nat) : Int)) = (((ws.filter fun w => !w.1 && decide (f ≤ w.2.2)).map fun w => w.2.1).map fun (n : Nat) => (n : Int)).map D.int := by
    rw [List.map_map, List.map_map]; rfl
  rcases hd with rfl | rfl <;> rcases he with rfl | rfl
  all_goals exact key _ ⟨_, e1, fin⟩
def wF : Bool → Wo → D
  | true => wordR
  | false => wordD
def wordsF (r : Bool) (ws : List Wo) : List D := ws.map (wF r)
theorem wordsF_len (r : Bool) (ws : List Wo) : (wordsF r ws).length = ws.length := by simp [wordsF]
def WsF (r : Bool) (d : D) (ws : List Wo) : Prop := d = .lst (wordsF r ws) ∨ d = .tup (wordsF r ws)
theorem atI_wordsF {r : Bool} {ws : List Wo} {j : Nat} {w : Wo} (h : ws[j]? = some w) : atI (wordsF r ws) ((j : Nat) : Int) = some (wF r w) := by
  refine atI_nat ?_
  unfold wordsF; rw [List.getElem?_map, h]; rfl
def g_are_contraryA : FA := fun ds C => ∃ r u v, ds = [wF r u, wF r v] ∧ C (.val (.bl (contr u v)))
theorem rd_are_contraryA : ∀ ds C, ds.length = 2 → g_are_contraryA ds C → T_are_contrary (EA C) (startA N_are_contrary ds) := by
  rintro ds C - ⟨r, u, v, rfl, hC⟩
  cases r
  · exact rd_are_contrary _ C rfl ⟨u, v, rfl, hC⟩
  · exact rd_are_contraryR _ C rfl ⟨u, v, rfl, hC⟩
def g_least_aheadA : FA := fun ds C => ∃ r d ws f, ds = [d, .int ((f : Nat) : Int)] ∧ WsF r d ws ∧ ws.length ≤ 1000 ∧ C (.val (.int ((loN ws f : Nat) : Int)))
theorem rd_least_aheadA : ∀ ds C, ds.length = 2 → g_least_aheadA ds C → T_least_ahead (EA C) (startA N_least_ahead ds) := by
  rintro ds C - ⟨r, d, ws, f, rfl, hd, hl, hC⟩
  cases r
  · exact rd_least_ahead _ C rfl ⟨d, ws, f, rfl, hd, hl, hC⟩
  · exact rd_least_aheadR _ C rfl ⟨d, ws, f, rfl, hd, hl, hC⟩
def g_most_aheadA : FA := fun ds C => ∃ r d cuts e ws f, ds = [d, e, .int ((f : Nat) : Int)] ∧ Sq d cuts ∧ WsF r e ws ∧ ws.length ≤ 1000 ∧ (∀ w ∈ ws, w.2.1 < cuts.length) ∧ C (.val (.int ((hiN cuts.length ws f : Nat) : Int)))
theorem rd_most_aheadA : ∀ ds C, ds.length = 3 → g_most_aheadA ds C → T_most_ahead (EA C) (startA N_most_ahead ds) := by
  rintro ds C - ⟨r, d, cuts, e, ws, f, rfl, hc, hd, hl, hb, hC⟩
  cases r
  · exact rd_most_ahead _ C rfl ⟨d, cuts, e, ws, f, rfl, hc, hd, hl, hb, hC⟩
  · exact rd_most_aheadR _ C rfl ⟨d, cuts, e, ws, f, rfl, hc, hd, hl, hb, hC⟩
def g_refuse_clashA : FA := fun ds C => ∃ r d ws, ds = [d] ∧ (WsF r) d ws ∧ NoClash ws ∧ ws.length ≤ 1000 ∧ C (.val .non)
def g_boundsA : FA := fun ds C => ∃ r d cuts e fills k ws, ds = [d, e, k] ∧ Sq d cuts ∧ Sq e fills ∧ (WsF r) k ws ∧ NoClash ws ∧ ws.length ≤ 1000 ∧ fills.length ≤ 900 ∧ InB cuts.length fills.length ws ∧ ∀ p, C (.own p ((bndL cuts.length fills.length ws).map bndD))
theorem rd_boundsA : ∀ ds C, ds.length = 3 → g_boundsA ds C → T_bounds g_refuse_clashA g_least_aheadA g_most_aheadA { nx := fun _ => C (.val .non), rt := fun c _ => C c } (startA N_bounds ds) := by
  rintro ds C - ⟨r, d, cuts, e, fills, k, ws, rfl, hd, he, hk, hn, hl, hfl, hb, hC⟩
  have h2 : (2 : Nat) ≤ sizeLine := by decide
  have key : lcW [3] (hName 3) pYes (pTup (pCons (pFrz (pCallA 2 g_least_aheadA (pCons (pVar 2) (pCons (pVar 3) pNil)))) (pCons (pFrz (pCallA 3 g_most_aheadA (pCons (pVar 0) (pCons (pVar 2) (pCons (pVar 3) pNil))))) pNil))) (fun acc ρ2 => ∀ p, C (.own p acc)) (rangeD 0 fills.length) [] [some (.val d), some (.val e), some (.val k), none] := by
    rw [rangeD_map]
    refine lcW_ints (h := fun f => bndD (loN ws f.toNat, hiN cuts.length ws f.toNat)) (fun x hx K hK => ?_) (by rw [List.length_map, List.length_range]; omega) (fun p => ?_)
    · obtain ⟨f, hf, rfl⟩ := mem_rng hx
      refine ⟨rfl, r, k, ws, f, rfl, hk, hl, rfl, r, d, cuts, k, ws, f, rfl, hd, hk, hl, fun w hw => (hb w hw).1, h2, hK _ rfl⟩
    · have := hC p
      unfold bndL at this
      rw [List.map_map] at this ⊢
      rw [← List.range_eq_range'] at this
      exact this
  have r1 : (-(2 ^ 62) : Int) ≤ (((dI fills).length : Nat) : Int) := by rw [ints_len]; omega
  have r2 : (((dI fills).length : Nat) : Int) < 2 ^ 62 := by rw [ints_len]; omega
  have r3 : (((dI fills).length : Nat) : Int).toNat = fills.length := by rw [ints_len]; omega
  refine ⟨rfl, r, k, ws, rfl, hk, hn, hl, ?_⟩
  rcases he with rfl | rfl
  · exact ⟨r1, r2, by rw [r3]; exact key⟩
  · exact ⟨r1, r2, by rw [r3]; exact key⟩
structure BkA (r : Bool) (d : D) (cuts : List Int) (e : D) (fills : List Int) (k : D) (ws : List Wo) : Prop where
  c : Sq d cuts
  f : Sq e fills
  w : (WsF r) k ws
  no : NoClash ws
  l : ws.length ≤ 1000
  cl : cuts.length ≤ 400
  fl : fills.length ≤ 400
  b : InB cuts.length fills.length ws
def g_least_orderA : FA := fun ds C => ∃ r d cuts e fills k ws, ds = [d, e, k] ∧ BkA r d cuts e fills k ws ∧ C (.val (.str (txt (ordW 0 (hiL cuts.length fills.length ws) cuts.length))))
theorem rd_least_orderA : ∀ ds C, ds.length = 3 → g_least_orderA ds C → T_least_order g_boundsA g_order_with { nx := fun _ => C (.val .non), rt := fun c _ => C c } (startA N_least_order ds) := by
  rintro ds C - ⟨r, d, cuts, e, fills, k, ws, rfl, B, hC⟩
  have h1 := B.cl
  have h2 := B.fl
  refine ⟨rfl, r, d, cuts, e, fills, k, ws, rfl, B.c, B.f, B.w, B.no, B.l, by omega, B.b, fun p => ?_⟩
  refine lcW_bnds (h := fun b => .int ((b.2 : Nat) : Int)) _ [] (fun b _ K hK => ⟨rfl, rfl, hK _ rfl⟩) (by rw [bnd_len]; show 0 + fills.length ≤ 1000; omega) ?_
  rw [List.nil_append, bnd_hi]
  rcases B.c with rfl | rfl
  · refine ⟨rfl, hiL cuts.length fills.length ws, cuts.length, ?_, hiL_rise _ _ _, by omega, by rw [hiL_len]; omega, hC⟩
    show [D.lst _, D.int (((dI cuts).length : Nat) : Int)] = _
    rw [ints_len]
  · refine ⟨rfl, hiL cuts.length fills.length ws, cuts.length, ?_, hiL_rise _ _ _, by omega, by rw [hiL_len]; omega, hC⟩
    show [D.lst _, D.int (((dI cuts).length : Nat) : Int)] = _
    rw [ints_len]
def g_greatest_orderA : FA := fun ds C => ∃ r d cuts e fills k ws, ds = [d, e, k] ∧ BkA r d cuts e fills k ws ∧ C (.val (.str (txt (ordW 0 (loL fills.length ws) cuts.length))))
theorem rd_greatest_orderA : ∀ ds C, ds.length = 3 → g_greatest_orderA ds C → T_greatest_order g_boundsA g_order_with { nx := fun _ => C (.val .non), rt := fun c _ => C c } (startA N_greatest_order ds) := by
  rintro ds C - ⟨r, d, cuts, e, fills, k, ws, rfl, B, hC⟩
  have h1 := B.cl
  have h2 := B.fl
  refine ⟨rfl, r, d, cuts, e, fills, k, ws, rfl, B.c, B.f, B.w, B.no, B.l, by omega, B.b, fun p => ?_⟩
  refine lcW_bnds (h := fun b => .int ((b.1 : Nat) : Int)) _ [] (fun b _ K hK => ⟨rfl, rfl, hK _ rfl⟩) (by rw [bnd_len]; show 0 + fills.length ≤ 1000; omega) ?_
  rw [List.nil_append, bnd_lo]
  rcases B.c with rfl | rfl
  · refine ⟨rfl, loL fills.length ws, cuts.length, ?_, loL_rise B.b, by omega, by rw [loL_len]; omega, hC⟩
    show [D.lst _, D.int (((dI cuts).length : Nat) : Int)] = _
    rw [ints_len]
  · refine ⟨rfl, loL fills.length ws, cuts.length, ?_, loL_rise B.b, by omega, by rw [loL_len]; omega, hC⟩
    show [D.lst _, D.int (((dI cuts).length : Nat) : Int)] = _
    rw [ints_len]
def g_may_standA : FA := fun ds C => ∃ r a l d cuts e fills k ws, ds = [a, d, e, k] ∧ Sq a l ∧ l ≠ [] ∧ l.length ≤ 1000 ∧ BkA r d cuts e fills k ws ∧ C (.val (.tup [tD (loSt l cuts fills ws), tD (hiSt l cuts fills ws)]))
theorem rd_may_standA : ∀ ds C, ds.length = 4 → g_may_standA ds C → T_may_stand g_behind g_almanac_of g_least_orderA g_greatest_orderA { nx := fun _ => C (.val .non), rt := fun c _ => C c } (startA N_may_stand ds) := by
  rintro ds C - ⟨r, a, l, d, cuts, e, fills, k, ws, rfl, ha, hne, hl, B, hC⟩
  have h1 := B.cl
  have h2 := B.fl
  have c1 := ordW_cT (hiL_rise cuts.length fills.length ws)
  have c2 := ordW_cT (loL_rise B.b)
  have f1 := ordW_cF cuts.length (hiL cuts.length fills.length ws) 0
  have f2 := ordW_cF cuts.length (loL fills.length ws) 0
  rw [hiL_len] at f1
  rw [loL_len] at f2
  have l1 := cT_cF (ordW 0 (hiL cuts.length fills.length ws) cuts.length)
  have l2 := cT_cF (ordW 0 (loL fills.length ws) cuts.length)
  refine ⟨rfl, r, d, cuts, e, fills, k, ws, rfl, B, rfl, d, cuts, e, fills, _, rfl, B.c, B.f, by omega, by omega, by omega, fun p => ?_⟩
  refine ⟨rfl, r, d, cuts, e, fills, k, ws, rfl, B, rfl, d, cuts, e, fills, _, rfl, B.c, B.f, by omega, by omega, by omega, fun q => ?_⟩
  refine ⟨rfl, a, l, _, _, rfl, ha, .inl rfl, hne, hl, by rw [almL_len]; omega, ?_⟩
  refine ⟨rfl, a, l, _, _, rfl, ha, .inl rfl, hne, hl, by rw [almL_len]; omega, by show (2 : Nat) ≤ sizeLine; decide, hC⟩
def g_sure_postsA : FA := fun ds C => ∃ r a l d cuts e fills k ws, ds = [a, d, e, k] ∧ Sq a l ∧ l ≠ [] ∧ l.length ≤ 1000 ∧ BkA r d cuts e fills k ws ∧ ∀ p, C (.own p (dI (sureL 0 (loSt l cuts fills ws) (hiSt l cuts fills ws))))
theorem rd_sure_postsA : ∀ ds C, ds.length = 4 → g_sure_postsA ds C → T_sure_posts g_may_standA { nx := fun _ => C (.val .non), rt := fun c _ => C c } (startA N_sure_posts ds) := by
  rintro ds C - ⟨r, a, l, d, cuts, e, fills, k, ws, rfl, ha, hne, hl, B, hC⟩
  refine ⟨rfl, r, a, l, d, cuts, e, fills, k, ws, rfl, ha, hne, hl, B, rfl, rfl, ?_⟩
  have e1 : (loSt l cuts fills ws).length = l.length := stL_len _ _ _ _
  have e2 : (hiSt l cuts fills ws).length = l.length := stL_len _ _ _ _
  generalize loSt l cuts fills ws = x at *
  generalize hiSt l cuts fills ws = y at *
  show lcW [6, 7] (hTup 2 (hCons (hName 6) (hCons (hName 7) hNil))) (pTest (pOp fEq (pVar 7) (pIxO 5 (pVar 6)))) (pVar 6) (fun acc ρ2 => ∀ p, C (.own p acc)) (enumD 0 (dI x)) [] [some (.val a), some (.val d), some (.val e), some (.val k), some (.val (tD x)), some (.val (tD y)), none, none]
  refine lcW_inv (fun ds acc ρ => ∃ (n : Nat) (x1 y1 got : List Int), ds = enumD n (dI x1) ∧ acc = dI got ∧ ρ = [some (.val a), some (.val d), some (.val e), some (.val k), some (.val (tD x)), some (.val (tD y)), none, none] ∧ y1 = y.drop n ∧ x1.length = y1.length ∧ n + x1.length = l.length ∧ got ++ sureL n x1 y1 = sureL 0 x y ∧ got.length ≤ n) (fun v r acc ρ K hK hI => ?_) (fun acc ρ hI => ?_) _ _ _ ⟨0, x, y, [], rfl, rfl, rfl, rfl, by rw [e1, e2], by omega, rfl, Nat.le_refl _⟩
  · obtain ⟨n, x1, y1, got, h1, rfl, rfl, h2, h3, h4, h5, h6⟩ := hI
    cases x1 with
    | nil => cases h1
    | cons u x1 =>
      cases h1
      cases y1 with
      | nil => simp at h3
      | cons v y1 =>
        have h4 : n + (x1.length + 1) = l.length := h4
        have hn : n < y.length := by omega
        have hv : y.getD n 0 = v ∧ y.drop (n + 1) = y1 := by
          have : y.drop n = y[n] :: y.drop (n + 1) := List.drop_eq_getElem_cons hn
          rw [this] at h2
          have := List.cons.inj h2
          refine ⟨?_, this.2.symm⟩
          rw [List.getD_eq_getElem?_getD, List.getElem?_eq_getElem hn]; exact this.1.symm
        refine ⟨rfl, rfl, _, atI_get hn, sh_int _, sh_int _, ?_⟩
        rw [hv.1]
        have es : sureL n (u :: x1) (v :: y1) = if u = v then (n : Int) :: sureL (n + 1) x1 y1 else sureL (n + 1) x1 y1 := rfl
        refine ifB (fun q => ?_) (fun q => ?_)
        · have q : u = v := by rw [show (D.int u).eqv (.int v) = _ from eqv_int u v] at q; simpa using q
          rw [es, if_pos q] at h5
          refine ⟨small1000 (by rw [ints_len]; omega), hK _ _ ⟨n + 1, x1, y1, got ++ [(n : Int)], rfl, by unfold dI; rw [List.map_append]; rfl, rfl, hv.2.symm, by simpa using h3, by omega, by rw [List.append_assoc]; exact h5, by simp; omega⟩⟩
        · have q : u ≠ v := by rw [show (D.int u).eqv (.int v) = _ from eqv_int u v] at q; simpa using q
          rw [es, if_neg q] at h5
          exact hK _ _ ⟨n + 1, x1, y1, got, rfl, rfl, rfl, hv.2.symm, by simpa using h3, by omega, h5, by omega⟩
  · obtain ⟨n, x1, y1, got, h1, rfl, rfl, h2, h3, h4, h5, h6⟩ := hI
    cases x1 with
    | cons u x1 => cases h1
    | nil =>
      have : sureL n [] y1 = [] := by unfold sureL; rfl
      rw [this, List.append_nil] at h5
      rw [h5]
      exact hC
end Pl
namespace L2
open PySem PySem.Spec PyProof.Rows
theorem exk_ok {P : Program} {w : World} {H : Hp} {h : Heap} {a C dd : Addr} {oe : Obj} {vs : Array Value} (e : h.get? a = some oe) (z : Zc (.ref C) (some dd) oe) (d : oe.data = .fields vs) : ObjOk P w H h a (exk a C dd) :=
  ⟨⟨oe, vs, e, z.1, z.2, d⟩, ⟨oe, e⟩, fun _ _ ⟨o, v, q, r⟩ k => ⟨o, v, k o q, r⟩⟩
theorem exk_at {P : Program} {w : World} {H : Hp} {h : Heap} {a C dd : Addr} (hok : HOk P w H h) (e : H a = some (exk a C dd)) : ∃ (oe : Obj) (vs : Array Value), h.get? a = some oe ∧ oe.cls = .ref C ∧ oe.dict = some dd ∧ oe.data = .fields vs := by
  have x : ObjOk P w H h a (.ext fun h => ∃ (oe : Obj) (vs : Array Value), h.get? a = some oe ∧ oe.cls = .ref C ∧ oe.dict = some dd ∧ oe.data = .fields vs) := hok a _ e
  exact x.1
section
variable {X : Cx} {pins : List (Addr × Obj)} {σ : St} {H : Hp} {s : Shared}
theorem Inv.track (I : Inv X pins σ H s) {a C dd : Addr} {oe : Obj} {vs : Array Value} (na : H a = none) (n0 : X.s_0.heap.get? a = none) (e : s.heap.get? a = some oe) (z : Zc (.ref C) (some dd) oe) (d : oe.data = .fields vs) (np : ∀ p ∈ X.pn ++ pins, p.1 ≠ a) (nL : a ≠ X.env.locals) :
    Inv X pins σ (upd H a (exk a C dd)) s := by
  have old : ∀ {b o}, X.s_0.heap.get? b = some o → b ≠ a := fun {b o} q x => by rw [x, n0] at q; cases q
  have far : ∀ {b : Addr} {o : HO}, H b = some o → b ≠ a := fun {b o} q => ne_of_none q na
  refine ⟨I.ok, I.os, I.bare, ⟨I.base.keep, I.base.slot, fun b o q n x => by rw [upd_ne (old q)]; exact I.base.free b o q n x, I.base.there, fun b xs q => ?_, fun b o u q => ?_, fun b ps q => ?_⟩, I.loc, I.cell, by rw [upd_ne (Ne.symm nL)]; exact I.free, fun x c q => ?_, fun p hp => ?_, fun b u q => ?_, I.len⟩
  · have q := I.base.tups b xs q
    rw [upd_ne (far q)]; exact q
  · have q := I.base.frzs b o u q
    rw [upd_ne (far q)]; exact q
  · obtain ⟨m, q⟩ := I.base.tbls b ps q
    exact ⟨m, by rw [upd_ne (far q)]; exact q⟩
  · obtain ⟨v, o, ho, hv⟩ := I.cell x c q
    have ne : c ≠ a := fun z => by
      rw [z, e] at ho
      cases ho
      have hv' : oe.data = .cell v := hv
      rw [d] at hv'
      cases hv'
    rw [upd_ne ne]; exact I.freeC x c q
  · obtain ⟨h1, h2, h3⟩ := I.pin p hp
    exact ⟨h1, by rw [upd_ne (np p hp)]; exact h2, h3⟩
  · by_cases hb : b = a
    · subst hb
      rw [upd_same] at q
      cases q
      exact exk_ok e z d
    · rw [upd_ne hb] at q
      exact (I.hok b u q).stay (fun _ _ _ y => y) (fun c y => by rw [upd_ne (far y)]; exact y) fun c xs y => by rw [upd_ne (far y)]; exact y
end
def Hits (X : Cx) (tt : Expr) (cls : Value) : Prop := ∀ (a : Addr) (oe : Obj) (pn : List (Addr × Obj)) (σ : St) (H : Hp) (s : Shared) (Q : Value → Shared → Prop) (E : Value → Shared → Prop), Inv (X.suite a ((a, oe) :: pn)) [] σ H s → PySem.W.Looks (model X.prog X.w) s.heap (typeOf (.ref a)) cls →
  (∀ c h', (∀ b o, s.heap.get? b = some o → h'.get? b = some o) → PySem.W.Looks (model X.prog X.w) h' (excMatches (.ref a) c) true → Q c { s with heap := h' }) → wpAny (model X.prog X.w) (X.A.mark (some (.ref a))) (eval tt X.env) Q E s
def Named (X : Cx) (x : Str) (C : Addr) : Prop := Gl X x ∧ (x == ("__debug__" : Str)) = false ∧ X.mg x = some (.ref C)
section
variable {X : Cx} {cls : Value} {x1 x2 x3 x4 : Str} {C1 C2 C3 C4 : Addr} {p1 p2 p3 p4 tp : Pos} {kk : Nat}
theorem kpush {h : Heap} {ob : Obj} : ∀ b o, h.get? b = some o → (h.push ob).get? b = some o := fun _ _ q => Heap.get?_push_of_some _ q
theorem hits3 (n1 : Named X x1 C1) (n2 : Named X x2 C2) (n3 : Named X x3 C3) (h : PySem.W.exmAny X.K cls [.ref C1, .ref C2, .ref C3] = some true) : Hits X (.Tuple [.Name x1 p1, .Name x2 p2, .Name x3 p3] kk tp) cls := fun a oe pn σ H s Q E I LT k => by
  refine wpAny_Tuple (wpAny_items_cons (ld_glob (X := X.suite a ((a, oe) :: pn)) I n1.1 n1.2.2 ?_ n1.2.1))
  refine wpAny_items_cons (ld_glob (X := X.suite a ((a, oe) :: pn)) I n2.1 n2.2.2 ?_ n2.2.1)
  refine wpAny_items_cons (ld_glob (X := X.suite a ((a, oe) :: pn)) I n3.1 n3.2.2 ?_ n3.2.1)
  exact wpAny_items_nil ⟨by size_fits, k _ _ kpush (PySem.W.exm_tup3 (I.kIn.keeps kpush) (LT.keeps kpush) (Heap.get?_push_size s.heap rfl) h)⟩
end
theorem flying_kept {B h h' : Heap} {l : List Env} {a : Addr} {Z : Obj → Prop} (f : PySem.HandSPX.FlyingZ B l a Z h) (k : ∀ b o, h.get? b = some o → h'.get? b = some o) : PySem.HandSPX.FlyingZ B l a Z h' := by
  obtain ⟨f1, f2, f3, oe, vs, T, oT, ts, he, hz, hd, h1, hn, hne, hT, hdT, h3⟩ := f
  exact ⟨fun b o q => k b o (f1 b o q), f2, f3.of_keeps fun b o q _ => ⟨o, k b o q, rfl⟩, oe, vs, T, oT, ts, k _ _ he, hz, hd, h1, hn, hne, k _ _ hT, hdT, h3⟩
def wKeep (i j : Nat) (ok : Addr → Prop) (D : Ends) : WX := fun cls d σ H => ∃ C dd, cls = .ref C ∧ d = some dd ∧ ok C ∧ ∀ a, H a = none → D.nx (((σ.set i (some (.ref a))).set j (some (.ref a))).set i none) (upd H a (exk a C dd))
section
variable {X : Cx} {n y : Str} {i j : Nat} {tt : Expr} {body : List Stmt} {p1 p2 p3 pos pos' : Pos} {tb : WX → TS} {ok : Addr → Prop}
theorem ps_try_keep (hs : X.stack = X.env :: X.outer) (hf : X.env.frame = some X.env.locals) (hex : X.ex = []) (hN : X.N.Nodup) (hi : X.N[i]? = some n) (hj : X.N[j]? = some y) (hln : X.env.scope.names.lookup n = some .local) (hly : X.env.scope.names.lookup y = some .local)
    (hb : ∀ (W : WX) (pn : List (Addr × Obj)) (xe : Value → Shared → Prop), Takes (X.tr pn xe) W → PassesOwn (model X.prog X.w) X.A X.env xe → PSs (X.tr pn xe) body (tb W)) (hh : ∀ C, ok C → Hits X tt (.ref C))
    (sw : swapsWith (.Name n p2) (some (.Name y p1)) p3.line X.env = pure false := by rfl) (hd : (n == ("__debug__" : Str)) = false := by decide) (hcd : (n == ("__classdict__" : Str)) = false := by decide) :
    PS X (.Try body [.ExceptHandler (some tt) (some n) [.Assign [.Name y p1] (.Name n p2) p3] pos'] [] [] pos) (fun D σ H => tb (wKeep i j ok D) D σ H) := by
  refine ⟨fun pins s σ H D I h => ?_⟩
  have I0 := I
  have xok := I.ok
  have hfr : X.A.frames = some (X.env :: X.outer) := by rw [xok.frames, hs]
  refine wpAny_Try_except (wpAny_mono ((hb (wKeep i j ok D) (X.pn ++ pins) (fun e s₁ => wpAny (model X.prog X.w) X.A (noteFrame e X.env) (fun _ s₂ => wpAny (model X.prog X.w) X.A (setFlight e none) (fun _ s₃ =>
    wpAny (model X.prog X.w) X.A (handleBy e X.env [.ExceptHandler (some tt) (some n) [.Assign [.Name y p1] (.Name n p2) p3] pos']) (SP X pins D) X.xe s₃) X.xe s₂) X.xe s₁) (fun u s' xx => ?_) PassesOwn.looking).run [] s σ H D (I.toTry _) h) (fun f s1 hsp => ?_) (fun e s1 he => he))
  · obtain ⟨a, B, sI, pins', σ', H', cls, d, rfl, J', nb, up, sky, na, os, ag, C, dd, rfl, rfl, hC, go⟩ := xx
    have J : Inv X pins σ' H' sI := J'.ofTry xok
    have sky' : Sky B (X.env :: X.outer) a (Zc (.ref C) (some dd)) X.env.locals s'.heap := by rw [← hs]; exact sky
    have Bn : B.get? a = none := by
      rcases sky' with ⟨_, q, _⟩ | f | f
      · exact q
      · exact f.2.1
      · exact f.2.1
    show wpAny (model X.prog X.w) X.A (noteFrame (.ref a) X.env) _ _ _
    refine Sky.land Zc.steady hfr hf sky' fun h3 fl3 up3 => ?_
    have J3 : Inv X pins σ' H' { s' with heap := h3 } := J.landed nb fl3.1 (up.trans up3) os ag
    obtain ⟨oe3, vs3, he3, hz3, hd3⟩ := fl3.there
    have nfr : a ∉ frs (X.env :: X.outer) := fun hm => by
      obtain ⟨_, o', e', hnf⟩ := fl3.2.2.1.mem hm
      rw [he3] at e'; cases e'
      exact hnf _ hd3
    have nL : a ≠ X.env.locals := fun z => nfr (List.mem_filterMap.mpr ⟨X.env, List.mem_cons_self, by rw [hf, z]⟩)
    have nF : a ∉ X.fs := fun hm => by
      obtain ⟨e, he, q⟩ := List.mem_filterMap.mp hm
      exact nfr (List.mem_filterMap.mpr ⟨e, List.mem_cons_of_mem _ he, q⟩)
    have nI : sI.heap.get? a = none := by
      cases e : sI.heap.get? a with
      | none => rfl
      | some o =>
        have z := nb a o e (by rw [hs]; exact nfr)
        rw [Bn] at z; cases z
    have n0 : X.s_0.heap.get? a = none := by
      cases e : X.s_0.heap.get? a with
      | none => rfl
      | some o =>
        obtain ⟨o', z⟩ := J.base.there a o e (by rw [hex]; exact fun z => nomatch z)
        rw [nI] at z; cases z
    have np : ∀ p ∈ X.pn ++ pins, p.1 ≠ a := fun p hp z => by
      have q := (J.pin p hp).1
      rw [z, nI] at q; cases q
    have S3 := J3.suite he3 hd3 na nL nF
    refine wpAny_handleBy_cons (codeAny_handlers_test ?_) (by intro q; cases q)
    have LT : PySem.W.Looks (model X.prog X.w) h3 (typeOf (.ref a)) (.ref C) := fun A Q E s k q => wpAny_typeOf_ref (k _ _ he3) (by rw [hz3.1]; exact q)
    refine hh C hC a oe3 (X.pn ++ pins) σ' H' { s' with heap := h3 } _ _ S3 LT fun c h5 k5 LM => LM.here ?_
    have fl5 : PySem.HandSPX.FlyingZ B (X.env :: X.outer) a (Zc (.ref C) (some dd)) h5 := flying_kept fl3 k5
    have up5 : sI.heap.UpToSlots h5 := (up.trans up3).trans (Heap.UpToSlots.of_keeps k5)
    refine codeAny_handlers_suite_as ?_
    refine PySem.HandSPX.lands_againZ fl5 fun h4 fl4 up4 => ?_
    have J4 : Inv X pins σ' H' { s' with heap := h4 } := J.landed nb fl4.1 (up5.trans up4) os ag
    obtain ⟨oe4, vs4, he4, hz4, hd4⟩ := fl4.there
    have T4 := J4.track na n0 he4 hz4 hd4 np nL
    have ok4 : (X.suite a (X.pn ++ pins)).Ok := xok.suite _ _
    have S4 : Inv (X.suite a (X.pn ++ pins)) [] σ' (upd H' a (exk a C dd)) { s' with heap := h4 } := ⟨ok4, T4.os, T4.bare, T4.base, T4.loc, T4.cell, T4.free, T4.freeC, fun p hp => T4.pin p (by rw [List.append_nil] at hp; exact hp), T4.hok, T4.len⟩
    refine store_ok (X := X.suite a (X.pn ++ pins)) (v := .ref a) S4 hN hi (.inl hln) rfl (fun s5 S5 => ?_) (.inr hln)
    have lenI : i < σ'.length := by
      rw [J.len]
      have q : X.N[i]? = some n := hi
      exact (List.getElem?_eq_some_iff.mp q).1
    have st : PSs (X.suite a (X.pn ++ pins)) [.Assign [.Name y p1] (.Name n p2) p3] (tAsg (tVar i) (gName j)) := pss_one (ps_set (X := X.suite a (X.pn ++ pins)) hN hj (.inl hly) (pe_var hi (.inl hln) hd hcd) sw (.inr hly))
    refine wpAny_mono (st.run [] s5 _ _ { nx := fun σ6 H6 => D.nx (σ6.set i none) H6, rt := fun _ _ => False } S5 ⟨.ref a, List.getElem?_set_self lenI, go a na⟩) (fun f s6 hsp => ?_) (fun _ _ z => False.elim z)
    cases f with
    | next =>
      obtain ⟨σ6, H6, S6, q6⟩ := hsp
      have U6 : Inv X pins σ6 H6 s6 := ⟨xok, S6.os, S6.bare, S6.base, S6.loc, S6.cell, S6.free, S6.freeC, fun p hp => S6.pin p (by rw [List.append_nil]; exact hp), S6.hok, S6.len⟩
      exact gone_ok U6 hN hi hln fun s7 J7 => ⟨_, _, J7, q6⟩
    | brk => obtain ⟨_, _, _, q6⟩ := hsp; exact q6.elim
    | cont => obtain ⟨_, _, _, q6⟩ := hsp; exact q6.elim
    | ret u => obtain ⟨_, _, _, _, _, q6⟩ := hsp; exact q6.elim
  · cases f with
    | next => obtain ⟨σ', H', J', q⟩ := hsp; exact wpAny_execs_nil ⟨σ', H', J'.ofTry xok, q⟩
    | brk => obtain ⟨σ', H', J', q⟩ := hsp; exact ⟨σ', H', J'.ofTry xok, q⟩
    | cont => obtain ⟨σ', H', J', q⟩ := hsp; exact ⟨σ', H', J'.ofTry xok, q⟩
    | ret u => obtain ⟨v, σ', H', J', r, q⟩ := hsp; exact ⟨v, σ', H', J'.ofTry xok, r, q⟩
end
structure AskX (K : PySem.W.Frag) (C : Addr) : Prop where
  ga : PySem.W.findIn K (.ref C) "__getattribute__" = some (some (.builtin "BaseException.__getattribute__"))
  gg : PySem.W.findIn K (.ref C) "__getattr__" = some none
  ca : PySem.W.findIn K (.ref C) "__class__" = some (some (.builtin "object.__class__"))
  hn : PySem.W.specialIn K (.builtin "object.__class__") "__get__" = some (some (.builtin "getset_descriptor.__get__"))
  ht : PySem.W.takesIn K (.builtin "object.__class__") = some true
section
variable {K : PySem.W.Frag} {C : Addr} {nw : String} {tl : List Value}
theorem OwnX.cd (T : OwnX K C nw tl) : ∃ cd, PySem.W.clsIn K C = some cd ∧ cd.mro = .ref C :: tl ∧ cd.hasDict = true := by
  obtain ⟨nm, q, N, bs, sn, sub, ab, col, dd, k0, k1, k2, k3, k5, hC⟩ := T.cls
  exact ⟨{ name := nm, bases := bs, mro := .ref C :: tl, ns := N, qualname := q, hasDict := true, slotNames := sn, subclasses := sub, abstract := ab, collection := col, hasDel := false }, by unfold PySem.W.clsIn; rw [hC] <;> rfl, rfl, rfl⟩
theorem OwnX.mro (T : OwnX K C nw tl) (b : Value) : PySem.W.mroIn K C b = some ((.ref C == b) || tl.contains b) := by
  obtain ⟨cd, h1, h2, _⟩ := T.cd
  unfold PySem.W.mroIn
  rw [h1, Option.bind_some, h2, if_neg (by simp), List.contains_cons]
  cases h : (Value.ref C == b) with
  | true => rw [beq_iff_eq.mp h]; simp
  | false =>
    have : (b == Value.ref C) = false := by
      cases q : (b == Value.ref C) with
      | false => rfl
      | true => rw [← beq_iff_eq.mp q] at h; simp at h
    rw [this]
end
def rIsX (K : PySem.W.Frag) : List V → Hp → VK → Prop := fun xs H Q => ∃ (a C dd : Addr) (fs : List (Str × V)) (nw : String) (tl : List Value) (c : V) (u : Value) (b : Bool), xs = [.ref a, c] ∧ H a = some (exk a C dd) ∧ H dd = some (.xd fs) ∧ OwnX K C nw tl ∧ tl.contains (.type "object") = true ∧ AskX K C ∧ ClsV c u ∧ PySem.W.kitOne K (.ref C) u = some b ∧ Q (.bl b) H
def rIsXT (K : PySem.W.Frag) : List V → Hp → VK → Prop := fun xs H Q => ∃ (a C dd tp : Addr) (fs : List (Str × V)) (nw : String) (tl : List Value) (cs : List V) (us : List Value) (b : Bool), xs = [.ref a, .ref tp] ∧ H a = some (exk a C dd) ∧ H dd = some (.xd fs) ∧ OwnX K C nw tl ∧ tl.contains (.type "object") = true ∧ AskX K C ∧
  H tp = some (.tup cs) ∧ Paired ClsV cs us ∧ PySem.W.kitAny K (.ref C) us = some b ∧ Q (.bl b) H
section
variable {X : Cx}
theorem exk_inst {pins : List (Addr × Obj)} {σ : St} {H : Hp} {s : Shared} {a C dd : Addr} {fs : List (Str × V)} (I : Inv X pins σ H s) (ea : H a = some (exk a C dd)) (ed : H dd = some (.xd fs)) :
    ∃ oe od, PySem.W.InstAt s.heap a oe C (some od) ∧ ∃ mA : Str → Option Value, (∀ name, PySem.W.lookIn name od = some (mA name)) ∧ ∀ f, RelO (fs.lookup f) (mA f) := by
  obtain ⟨oe, vs, ho, hc, hdict, hd⟩ := exk_at I.hok ea
  have hx : ObjOk X.prog X.w H s.heap dd (.xd fs) := I.hok dd _ ed
  obtain ⟨mA, hns, hr⟩ := hx
  obtain ⟨od, hod, hl⟩ := lookIn_ns hns
  exact ⟨oe, od, ⟨ho, hc, by unfold PySem.W.notCls; rw [hd] <;> rfl, by rw [hdict]; exact hod⟩, mA, hl, hr⟩
theorem exk_kit {K : PySem.W.Frag} {a C : Addr} {oe od : Obj} {nw : String} {tl : List Value} (T : OwnX K C nw tl) (hob : tl.contains (.type "object") = true) (A : AskX K C) : PySem.W.KitX K (.ref a) (.ref C) (fun h => PySem.W.InstAt h a oe C (some od)) := by
  obtain ⟨cd, h1, _, _⟩ := T.cd
  exact PySem.W.kitx_exc (by rw [h1]; rfl) A.ga A.gg T.exC A.ca A.hn A.ht (by rw [T.mro, hob, Bool.or_true])
theorem call_isX : CallR X (.builtin "isinstance") (rIsX X.K) := by
  intro pins s σ H xs us Q I r h
  obtain ⟨a, C, dd, fs, nw, tl, c, u, b, rfl, ea, ed, T, hob, A, k, e, q⟩ := h
  obtain ⟨u1, u2, rfl, r1, r2⟩ := vals2 r
  cases (show u1 = Value.ref a from r1)
  have e2 := k.eq r2
  subst e2
  obtain ⟨oe, od, J, _⟩ := exk_inst I ea ed
  exact PySem.W.kia_one (exk_kit T hob A) I.kIn J e (fun z => nomatch z) fun tk => ⟨.bl b, H, I.tok tk, rfl, q⟩
theorem call_isXT : CallR X (.builtin "isinstance") (rIsXT X.K) := by
  intro pins s σ H xs us Q I r h
  obtain ⟨a, C, dd, tp, fs, nw, tl, cs, ws, b, rfl, ea, ed, T, hob, A, hT, k, e, q⟩ := h
  obtain ⟨u1, u2, rfl, r1, r2⟩ := vals2 r
  cases (show u1 = Value.ref a from r1)
  cases (show u2 = Value.ref tp from r2)
  obtain ⟨oe, od, J, _⟩ := exk_inst I ea ed
  obtain ⟨_, its, rv, o, h1, h2, n, h3⟩ := (show ObjOk X.prog X.w H s.heap tp (.tup cs) from I.hok tp _ hT)
  have e3 := ClsV.all k rv
  subst e3
  obtain ⟨oc, odd, dt, sl⟩ := o
  simp only at h2 h3
  subst h2 h3
  exact PySem.W.kia_tup (exk_kit T hob A) I.kIn J h1 e (fun z => nomatch z) fun tk => ⟨.bl b, H, I.tok tk, rfl, q⟩
def tXfk (K : PySem.W.Frag) (f : Str) (te : TE) : TE := fun σ H Q => te σ H fun x H1 => ∃ (a C dd : Addr) (fs : List (Str × V)) (nw : String) (tl : List Value) (v : V), x = .ref a ∧ H1 a = some (exk a C dd) ∧ H1 dd = some (.xd fs) ∧ OwnX K C nw tl ∧ AskX K C ∧ PySem.W.findIn K (.ref C) f = some none ∧ fs.lookup f = some v ∧ Q v H1
theorem pe_xfk {e : Expr} {te : TE} {pos : Pos} {f : Str} (he : PE X e te) (hb : attributeBase e f X.env (eval e X.env) = eval e X.env := by rfl) : PE X (.Attribute e f pos) (tXfk X.K f te) := by
  refine ⟨fun pins s σ H Q I h => ?_⟩
  refine attr_of hb (thn (he.run pins s σ H _ I h) fun u s1 ⟨x, H1, I1, rx, a, C, dd, fs, nw, tl, v, ex, ea, ed, T, A, hno, l, q⟩ => ?_)
  subst ex
  cases (show u = Value.ref a from rx)
  obtain ⟨oe, od, J, mA, hl, hr⟩ := exk_inst I1 ea ed
  obtain ⟨u, hu, ru⟩ := RelO.some_of (v := v) (o := mA f) (by rw [← l]; exact hr f)
  obtain ⟨cd, h1, _, h3⟩ := T.cd
  exact PySem.HandSPX.exc_get I1.kIn J A.ga A.gg T.exC (PySem.W.findObj_own (by unfold PySem.W.hasDictIn; rw [h1]; exact h3) hno rfl (by rw [hl, hu])) (handed_of ru) ⟨v, H1, I1.tok _, ru, q⟩
end
end L2
namespace Pl
open PySem PySem.Spec PyProof.Rows L2
section
variable [TJ]
structure XD where
  c : Str
  y : D
abbrev unl : Str := "Unlike 0"
def XRep (K : PySem.W.Frag) (F : Hp) (cls : Value) (d : Option Addr) (x : XD) : Prop := ∃ C : Addr, cls = .ref C ∧
  ((x.c ≠ unl ∧ PySem.W.nsIn K mainGlobals x.c = some (some (.ref C)) ∧ ∃ (dd : Addr) (v : V), d = some dd ∧ F dd = some (.xd [(xfield x.c, v)]) ∧ Rep K F v x.y) ∨ (x.c = unl ∧ PySem.W.nsIn K mainGlobals "Unlike" = some (some (.ref C)) ∧ d = none))
theorem XRep.mono {K : PySem.W.Frag} {F F' : Hp} {cls : Value} {d : Option Addr} {x : XD} (e : Same F F') (h : XRep K F cls d x) : XRep K F' cls d x := by
  obtain ⟨C, h2, ⟨hc, h1, dd, v, h3, h4, h5⟩ | h3⟩ := h
  · exact ⟨C, h2, .inl ⟨hc, h1, dd, v, h3, e _ _ h4, h5.mono e⟩⟩
  · exact ⟨C, h2, .inr h3⟩
abbrev XP := XD → Ro → Prop
def XRel (K : PySem.W.Frag) (W : WX) (G F : Hp) (xx : XP) : Prop := ∀ F' H' σ' ρ' cls d x, Up G F F' → Sim K G F' H' σ' ρ' → XRep K F' cls d x → xx x ρ' → W cls d σ' H'
theorem XRel.mono {K : PySem.W.Frag} {W : WX} {G F F1 : Hp} {xx : XP} (h : XRel K W G F xx) (u : Up G F F1) : XRel K W G F1 xx := fun F' H' σ' ρ' cls d x v => h F' H' σ' ρ' cls d x (u.trans v)
theorem Sim.grow {K : PySem.W.Frag} {G F H F' H' : Hp} {σ : L2.St} {ρ : Ro} (S : Sim K G F H σ ρ) (u : Up G F F') (hF : Same F' H') (hH : Same H H') (fr : ∀ a o, H a = some o → Mut o → F a = none → F' a = none) (nw : ∀ b o, F' b = some o → F b = some o ∨ H b = none) : Sim K G F' H' σ ρ :=
  ⟨hF, S.hG.up hH nw, S.len, fun i d h => by
    obtain ⟨w, h1, h2⟩ := S.val i d h
    exact ⟨w, h1, h2.mono u.ex⟩, fun i a xs h => by
    obtain ⟨h1, h2, h3, vs, h4, h5⟩ := S.own i a xs h
    exact ⟨h1, fr a _ h4 trivial h2, h3, vs, hH _ _ h4, h5.mono u.ex⟩, S.ne, S.bx.heap u.ex fun p m => let ⟨f, g, _⟩ := S.bx.free m; let ⟨o, e, mo⟩ := S.bx.mut m; ⟨fr p o e mo f, g, (hH _ _ e).trans e.symm⟩⟩
abbrev TXe := Ro → XP → Prop
def SndX (K : PySem.W.Frag) (W : WX) (t : TE) (T : TXe) : Prop := ∀ (G F H : Hp) (σ : L2.St) (ρ : Ro) (xx : XP) (R : VK), Sim K G F H σ ρ → T ρ xx → XRel K W G F xx → t σ H R
def SndXA (K : PySem.W.Frag) (W : WX) (t : TA) (T : TXe) : Prop := ∀ (G F H : Hp) (σ : L2.St) (ρ : Ro) (xx : XP) (R : List V → Hp → Prop), Sim K G F H σ ρ → T ρ xx → XRel K W G F xx → t σ H R
def SndXI (K : PySem.W.Frag) (W : WX) (t : TI) (T : TXe) : Prop := ∀ (G F H : Hp) (σ : L2.St) (ρ : Ro) (xx : XP) (R : It → Hp → Prop), Sim K G F H σ ρ → T ρ xx → XRel K W G F xx → t σ H R
structure PXE (X : Cx) (W : WX) (e : Expr) (t : TE) (T : TXe) : Prop where
  pe : PE X e t
  snd : SndX X.K W t T
structure PXA (X : Cx) (W : WX) (es : List Expr) (t : TA) (T : TXe) : Prop where
  pa : PA X es t
  snd : SndXA X.K W t T
structure PXI (X : Cx) (W : WX) (tg iter : Expr) (t : TI) (T : TXe) : Prop where
  pi : PI X tg iter t
  snd : SndXI X.K W t T
abbrev FX := List D → (XD → Prop) → Prop
def spX (K : PySem.W.Frag) (n : Nat) (g : FX) : Sp := fun vs H _ E => ∃ (F : Hp) (ds : List D) (C : XD → Prop), vs.length = n ∧ Same F H ∧ Reps K F vs ds ∧ g ds C ∧
  ∀ x cls d F' H', Up H F F' → Same F' H' → Same H H' → XRep K F' cls d x → C x → E cls d H'
section
variable {X : Cx} {W : WX} {k : Nat} {f : Addr} {fd : FuncData} {ps : List Str} {x : Str} {p pos : Pos} {e a b c : Expr} {es : List Expr} {t ta' : TA} {T : TAp} {n : Nat} {te ta tb : TE} {Te Ta Tb U : TEp} {Xe Xa Xb : TXe}
def xCall (n : Nat) (g : FX) (T : TAp) : TXe := fun ρ xx => T ρ fun ds ρ1 => ds.length = n ∧ g ds fun x => xx x ρ1
theorem pxe_call {g : FX} (Fn : FnOk X.prog X.w X.K X.mg X.base (L2.CX X.prog X.w) k f fd ps (spX X.K n g)) (tk : Takes X W) (hr : Room k X.A) (hg : Gl X x) (hm : X.mg x = some (.ref f)) (hk : PySem.W.keepIn X.K (.ref f) = true) (hb : Binds X.K fd ps []) (ha : PPA X (e :: es) t T)
    (hdb : (x == ("__debug__" : Str)) = false := by decide) (he : starEach (e :: es) X.env = (false, eval e X.env) :: starEach es X.env := by rfl) (hpl : (backTo pos (starEach es X.env)).any (·.1) = false := by rfl) :
    PXE X W (.Call (.Name x p) (e :: es) [] pos) (tCallSD (spX X.K n g) [] (WE W) t) (xCall n g T) := ⟨pe_callSD Fn hr hg hm hk hb .nil (passAt tk) ha.pa hdb he hpl, fun G F H σ ρ xx R S hT hx =>
  ha.snd G F H σ ρ _ _ S hT fun vs ds F1 H1 ρ1 u1 S1 r1 h1 => by
    show spX X.K n g (vs ++ []) H1 R _
    rw [List.append_nil]
    refine ⟨F1, ds, _, by rw [r1.length]; exact h1.1, S1.hF, r1, h1.2, fun x cls d F' H' u hF hH xr q => ?_⟩
    have u' : Up G F1 F' := u.less S1.hG
    exact hx F' H' σ ρ1 cls d x (u1.trans u') (S1.grow u' hF hH (fun a o ha _ hf => u.isNone hf ha) u.out) xr q⟩
theorem pxa_here (ha : PXE X W e te Xe) (hr : PPA X es t T) (hs : starEach (e :: es) X.env = (false, eval e X.env) :: starEach es X.env := by rfl) : PXA X W (e :: es) (tCons te t) Xe :=
  ⟨pa_cons ha.pe hr.pa hs, fun G F H σ ρ xx R S hT hx => ha.snd G F H σ ρ xx _ S hT hx⟩
def xThere (Ta : TEp) (Xr : TXe) : TXe := fun ρ xx => Ta ρ fun _ ρ1 => Xr ρ1 xx
theorem pxa_there (ha : PPE X e te Te) (hr : PXA X W es t Xa) (hs : starEach (e :: es) X.env = (false, eval e X.env) :: starEach es X.env := by rfl) : PXA X W (e :: es) (tCons te t) (xThere Te Xa) :=
  ⟨pa_cons ha.pe hr.pa hs, fun G F H σ ρ xx R S hT hx => ha.snd G F H σ ρ _ _ S hT fun v d F1 H1 ρ1 u1 S1 r1 h1 => hr.snd G F1 H1 σ ρ1 xx _ S1 h1 (hx.mono u1)⟩
theorem pxe_arg {sp : Sp} (Fn : FnOk X.prog X.w X.K X.mg X.base CX0 k f fd ps sp) (hr : Room k X.A) (hg : Gl X x) (hm : X.mg x = some (.ref f)) (hk : PySem.W.keepIn X.K (.ref f) = true) (hb : Binds X.K fd ps []) (ha : PXA X W (e :: es) t Xa)
    (hdb : (x == ("__debug__" : Str)) = false := by decide) (he : starEach (e :: es) X.env = (false, eval e X.env) :: starEach es X.env := by rfl) (hpl : (backTo pos (starEach es X.env)).any (·.1) = false := by rfl) :
    PXE X W (.Call (.Name x p) (e :: es) [] pos) (tCall sp [] (fun _ _ _ => False) t) Xa := ⟨pe_call Fn hr hg hm hk hb .nil pass0 ha.pa hdb he hpl, fun G F H σ ρ xx R S hT hx => ha.snd G F H σ ρ xx _ S hT hx⟩
theorem pxe_argB {id : String} {r : List V → Hp → VK → Prop} (hc : CallR X (.builtin id) r) (hg : Gl X x) (hm : X.mg x = none) (hv : bootBuiltins x = some (.builtin id)) (ha : PXA X W (e :: es) t Xa)
    (hn : x ≠ "__name__" := by decide) (hdb : (x == ("__debug__" : Str)) = false := by decide)
    (he : starEach (e :: es) X.env = (false, eval e X.env) :: starEach es X.env := by rfl) (hpl : (backTo pos (starEach es X.env)).any (·.1) = false := by rfl) : PXE X W (.Call (.Name x p) (e :: es) [] pos) (tCB r t) Xa := ⟨pe_callB hc hg hm hv ha.pa hn hdb he hpl, fun G F H σ ρ xx R S hT hx => ha.snd G F H σ ρ xx _ S hT hx⟩
theorem pxe_cmp {op : CmpOp} {r : R2} {g : F2} (hc : Cmp X op r g) (ha : PXE X W a ta Xa) (hb : PPE X b tb Tb) (hm : behindInMarks op b = false) : PXE X W (.Compare a [op] [b] pos) (tOp r ta tb) Xa := ⟨pe_cmpR hc.op ha.pe hb.pe hm, fun G F H σ ρ xx R S hT hx => ha.snd G F H σ ρ xx _ S hT hx⟩
theorem pxi_seq {tg l : Expr} {tl : TE} (hl : PXE X W l tl Xe) : PXI X W tg l (iAny X.K tl) Xe := ⟨pi_any hl.pe, fun G F H σ ρ xx R S hT hx => hl.snd G F H σ ρ xx _ S hT hx⟩
end
section
variable {X : Cx} {W : WX} {elt tg iter : Expr} {ifs : List Expr} {scope : Scope} {own : List (Str × Nat)} {pos : Pos} {wi : TI} {Xi : TXe} {Gp : TGp} {is : List Nat} {Tt : TTp} {Te : TEp}
theorem pxe_lc (hc : X.calm = true) (hN : X.N.Nodup) (hi : PXI X W tg iter wi Xi) (ok : BlkOk X.N X.env.scope scope own)
    (hg : ∀ (s : Shared) (H : Hp) (C : Addr) (cl : List (Str × Addr)) (fp : List Addr), PTg (X.blk s H scope (compEnvC scope cl C X.env) fp) tg (liftG X.K Gp is) Gp is) (ht : ∀ (s : Shared) (H : Hp) (C : Addr) (cl : List (Str × Addr)) (fp : List Addr), PPTs (X.blk s H scope (compEnvC scope cl C X.env) fp) ifs (liftT X.K Tt) Tt)
    (he : ∀ (s : Shared) (H : Hp) (C : Addr) (cl : List (Str × Addr)) (fp : List Addr), PPE (X.blk s H scope (compEnvC scope cl C X.env) fp) elt (liftE X.K Te) Te) (hs : ∀ x, foldedSetIterable iter X.env x = pure x := by intro _; rfl) :
    PXE X W (.ListComp elt [⟨tg, iter, ifs, 0⟩] scope pos) (tLc wi (liftG X.K Gp is) (liftT X.K Tt) (liftE X.K Te) (own.map (·.2))) Xi :=
  ⟨pe_lc hc hN hi.pi ok (fun s H C cl fp => (hg s H C cl fp).pg) (fun s H C cl fp => (ht s H C cl fp).pt) (fun s H C cl fp => (he s H C cl fp).pe) hs, fun G F H σ ρ xx R S hT hx => hi.snd G F H σ ρ xx _ S hT hx⟩
end
abbrev TXs := PEnds → XP → Ro → Prop
def SndXS (K : PySem.W.Frag) (W : WX) (t : TS) (T : TXs) : Prop := ∀ (G F H : Hp) (σ : L2.St) (ρ : Ro) (P : PEnds) (D : Ends) (xx : XP), Sim K G F H σ ρ → T P xx ρ → ERel K G F P D → XRel K W G F xx → t D σ H
structure PXS (X : Cx) (W : WX) (st : Stmt) (t : TS) (T : TXs) : Prop where
  ps : PS X st t
  snd : SndXS X.K W t T
structure PXSs (X : Cx) (W : WX) (st : List Stmt) (t : TS) (T : TXs) : Prop where
  ps : PSs X st t
  snd : SndXS X.K W t T
def liftXS (K : PySem.W.Frag) (W : WX) (T : TXs) : TS := fun D σ H => ∃ (G F : Hp) (ρ : Ro) (P : PEnds) (xx : XP), Sim K G F H σ ρ ∧ T P xx ρ ∧ ERel K G F P D ∧ XRel K W G F xx
section
variable {X : Cx} {W : WX} {st : Stmt} {rest : List Stmt} {t u : TS} {T : TSp} {U V' : TXs} {e : Expr} {te : TE} {Te : TEp} {Xe : TXe} {pos : Pos}
theorem PXSs.lift (h : PXSs X W rest t U) : PXSs X W rest (liftXS X.K W U) U :=
  ⟨⟨fun pins s σ H D I ⟨G, F, ρ, P, xx, S, hT, r, hx⟩ => h.ps.run pins s σ H D I (h.snd G F H σ ρ P D xx S hT r hx)⟩, fun G F H σ ρ P D xx S hT r hx => ⟨G, F, ρ, P, xx, S, hT, r, hx⟩⟩
def xOk (T : TSp) : TXs := fun P _ ρ => T P ρ
theorem pxs_ok (h : PPS X st t T) : PXS X W st t (xOk T) := ⟨h.ps, fun G F H σ ρ P D xx S hT r _ => h.snd G F H σ ρ P D S hT r⟩
def xOr (T : TSp) (U : TXs) : TXs := fun P xx ρ => T P ρ ∨ U P xx ρ
theorem pxs_or (h : PPS X st t T) (h2 : PXS X W st u U) : PXS X W st (fun D σ H => t D σ H ∨ u D σ H) (xOr T U) :=
  ⟨⟨fun pins s σ H D I q => q.elim (h.ps.run pins s σ H D I) (h2.ps.run pins s σ H D I)⟩, fun G F H σ ρ P D xx S hT r hx => hT.elim (fun q => .inl (h.snd G F H σ ρ P D S q r)) fun q => .inr (h2.snd G F H σ ρ P D xx S q r hx)⟩
def xNext : TXs := fun P _ ρ => P.nx ρ
def xSeq (U V : TXs) : TXs := fun P xx ρ => U { P with nx := V P xx } xx ρ
theorem pxss_nil : PXSs X W [] tNext xNext := ⟨pss_nil, fun G F H σ ρ P D xx S h r _ => r.nx F H σ ρ (.refl _ _) S h⟩
theorem pxss_one (h : PXS X W st t U) : PXSs X W [st] t U := ⟨pss_one h.ps, h.snd⟩
theorem pxss_cons (h1 : PXS X W st t U) (h2 : PXSs X W rest u V') : PXSs X W (st :: rest) (tSeq t u) (xSeq U V') := ⟨pss_cons h1.ps h2.ps, fun G F H σ ρ P D xx S h r hx =>
  h1.snd G F H σ ρ _ _ xx S h ⟨fun F' H' σ' ρ' u S' q => h2.snd G F' H' σ' ρ' P D xx S' q (r.mono u) (hx.mono u), r.rt, r.bk, r.ct⟩ hx⟩
def xIfS (C : TTp) (U V : TXs) : TXs := fun P xx ρ => C ρ fun b ρ1 => if b = true then U P xx ρ1 else V P xx ρ1
theorem pxs_if {c : Expr} {a b : List Stmt} {tc : TT} {C : TTp} (hc : PPT X c tc C) (ha : PXSs X W a t U) (hb : PXSs X W b u V') : PXS X W (.If c a b pos) (tIfS tc t u) (xIfS C U V') := ⟨ps_if hc.pt ha.ps hb.ps, fun G F H σ ρ P D xx S h r hx =>
  hc.snd G F H σ ρ _ _ S h fun b F' H' ρ' u S' q => by
    cases b with
    | true => exact ite_ti (ha.snd G F' H' σ ρ' P D xx S' (ite_t q) (r.mono u) (hx.mono u))
    | false => exact ite_fi (hb.snd G F' H' σ ρ' P D xx S' (ite_f q) (r.mono u) (hx.mono u))⟩
def xE (Xe : TXe) : TXs := fun _ xx ρ => Xe ρ xx
theorem pxs_expr (he : PXE X W e te Xe) (hs : swapsWith e none pos.line X.env = pure false := by rfl) : PXS X W (.Expr e pos) (tDrop te) (xE Xe) := ⟨ps_expr he.pe hs, fun G F H σ ρ P D xx S h r hx => he.snd G F H σ ρ xx _ S h hx⟩
theorem pxs_ret (he : PXE X W e te Xe) : PXS X W (.Return (some e) pos) (tRet te) (xE Xe) := ⟨ps_ret he.pe, fun G F H σ ρ P D xx S h r hx => he.snd G F H σ ρ xx _ S h hx⟩
theorem pxs_set {i : Nat} {x : Str} {pos' : Pos} (hN : X.N.Nodup) (he : PXE X W e te Xe) (hi : X.N[i]? = some x := by rfl) (hx : Loc X.env.scope x := by first | exact Or.inl rfl | exact Or.inr rfl) (hs : swapsWith e (some (.Name x pos')) pos.line X.env = pure false := by rfl) (hf : X.fn x = true ∨ X.env.scope.names.lookup x = some .local := by first | exact .inl rfl | exact .inr rfl | assumption) :
    PXS X W (.Assign [.Name x pos'] e pos) (tAsg te (gName i)) (xE Xe) := ⟨ps_set hN hi hx he.pe hs hf, fun G F H σ ρ P D xx S h r hx => he.snd G F H σ ρ xx _ S h hx⟩
theorem pxs_asg {tg : Expr} {g : TG} {Gp : TGp} {is : List Nat} (he : PXE X W e te Xe) (hg : PTg X tg g Gp is) (hs : swapsWithSole [tg] e pos.line X.env = pure false := by rfl) (hw : swappedStores [tg] e X.env = pure none := by rfl)
    (h1 : (assignEach [tg] X.env).map (·.2) = [assign tg X.env] := by rfl) : PXS X W (.Assign [tg] e pos) (tAsg te g) (xE Xe) := ⟨ps_asg he.pe hg.pg hs hw h1, fun G F H σ ρ P D xx S h r hx => he.snd G F H σ ρ xx _ S h hx⟩
end
def spI (K : PySem.W.Frag) (c : Str) (C : Addr) (ok : D → Prop) : Sp := fun vs H Q _ => ∃ (F : Hp) (a : Addr) (v : V) (d : D), vs = [.ref a, v] ∧ H a = some (exo a C none) ∧ F a = none ∧ Same F H ∧ Rep K F v d ∧ ok d ∧
  ∀ (dd : Addr) (v' : V) (F' H' : Hp), H' a = some (exo a C (some dd)) → H' dd = some (exd dd [(xfield c, v')]) → H dd = none → dd ≠ a → Up H F F' → F' dd = none → (∀ b o, b ≠ a → F' b = some o → H' b = some o) → (∀ b o, b ≠ a → H b = some o → H' b = some o) → Rep K F' v' d → Q .non H'
section
variable {X : Cx} {W : WX} {x : Str} {C fI : Addr} {k : Nat} {fd : FuncData} {ps : List Str} {ok : D → Prop} {e : Expr} {ta : TA} {Ta : TAp} {p pos pos2 : Pos} {newId initId B : String} {tl : List Value}
def xRaise (c : Str) (ok : D → Prop) (T : TAp) : TXs := fun _ xx ρ => T ρ fun ds ρ1 => match ds with | [d] => ok d ∧ xx ⟨c, d⟩ ρ1 | _ => False
theorem pxs_raise (hc : X.calm = true) (tk : Takes X W) (O : PySem.OEY.Over B newId initId tl) (T : OwnX X.K C newId tl) (hns : PySem.W.nsIn X.K mainGlobals x = some (some (.ref C))) (iC : PySem.W.findIn X.K (.ref C) "__init__" = some (some (.ref fI))) (tI : PySem.W.typeIn X.K (.ref fI) = some (.type "function"))
    (F1 : FnOk X.prog X.w X.K X.mg X.base CX0 k fI fd ps (spI X.K x C ok)) (hr : Room (k + 1) X.A) (hb : Binds X.K fd ps []) (hg : Gl X x) (hm : X.mg x = some (.ref C)) (ha : PPA X [e] ta Ta)
    (hdb : (x == ("__debug__" : Str)) = false := by decide) (he : starEach [e] X.env = (false, eval e X.env) :: starEach [] X.env := by rfl) (hpl : (backTo pos (starEach [] X.env)).any (·.1) = false := by rfl) (hU : x ≠ unl := by decide) :
    PXS X W (.Raise (some (.Call (.Name x p) [e] [] pos)) none pos2) (fun _ σ H => tMkO C (spI X.K x C ok) [] ta σ H fun cls d H' => W cls d σ H') (xRaise x ok Ta) :=
  ⟨ps_raise hc tk (pmk_oy O T iC tI F1 hr hb .nil pass0 hg hm ha.pa hdb he hpl), fun G F H σ ρ P D xx S hT r hx =>
    ha.snd G F H σ ρ _ _ S hT fun vs ds F1 H1 ρ1 u1 S1 r1 h1 => by
      match ds, r1, h1 with
      | [d], .cons (v := v) rv .nil, h1 =>
        refine ⟨(by show (1 : Nat) ≤ 1000; decide), fun a na => ?_⟩
        have fa : F1 a = none := S1.freshF na
        refine ⟨F1, a, v, d, rfl, upd_same, fa, fun b o q => ?_, rv, h1.1, fun dd v' F' H' ea ed hd ne up fd' sF sH rp => ?_⟩
        · rw [upd_ne (ne_of_none (S1.hF _ _ q) na)]; exact S1.hF _ _ q
        have H1d : H1 dd = none := by rw [upd_ne ne] at hd; exact hd
        have F'a : F' a = none := up.isNone fa upd_same
        refine ⟨rfl, dd, _, ea, ed, H1d, ?_⟩
        have hH : Same H1 (upd (del H' a) dd (.xd [(xfield x, v')])) := fun b o q => by
          have n1 : b ≠ a := ne_of_none q na
          have n2 : b ≠ dd := ne_of_none q H1d
          rw [upd_ne n2, del_ne n1]
          exact sH b o n1 (by rw [upd_ne n1]; exact q)
        have sm : Same F' (upd F' dd (.xd [(xfield x, v')])) := same_new fd'
        have hF : Same (upd F' dd (.xd [(xfield x, v')])) (upd (del H' a) dd (.xd [(xfield x, v')])) := fun b o q => by
          by_cases n2 : b = dd
          · subst n2; rw [upd_same] at q ⊢; exact q
          · rw [upd_ne n2] at q ⊢
            have n1 : b ≠ a := ne_of_none q F'a
            rw [del_ne n1]
            exact sF b o n1 q
        have u2 : Up G F1 (upd F' dd (.xd [(xfield x, v')])) := ⟨up.ex.trans sm, fun b o q => by
          by_cases n2 : b = dd
          · subst n2; exact .inr (S1.freshG H1d)
          · rw [upd_ne n2] at q
            rcases up.out b o q with z | z
            · exact .inl z
            · by_cases n1 : b = a
              · rw [n1, F'a] at q; cases q
              · rw [upd_ne n1] at z; exact .inr (S1.freshG z)⟩
        refine hx _ _ σ ρ1 _ _ ⟨x, d⟩ (u1.trans u2) (S1.grow u2 hF hH (fun b us hb _ hf => ?_) fun b o q => ?_) ⟨C, rfl, .inl ⟨hU, hns, dd, v', rfl, upd_same, rp.mono sm⟩⟩ h1.2
        · have n2 : b ≠ dd := ne_of_none hb H1d
          have n1 : b ≠ a := ne_of_none hb na
          rw [upd_ne n2]
          exact up.isNone hf (by rw [upd_ne n1]; exact hb)
        · by_cases n2 : b = dd
          · subst n2; exact .inr H1d
          · rw [upd_ne n2] at q
            rcases up.out b o q with z | z
            · exact .inl z
            · by_cases n1 : b = a
              · subst n1; rw [F'a] at q; cases q
              · rw [upd_ne n1] at z; exact .inr z
      | [], _, h1 => exact h1.elim
      | _ :: _ :: _, _, h1 => exact h1.elim⟩
end
section
variable {X : Cx} {n y : Str} {i j : Nat} {tt : Expr} {body : List Stmt} {p1 p2 p3 pos pos' : Pos} {T : TXs} {cs : List Str}
def pTry (i j : Nat) (cs : List Str) (T : TXs) : TSp := fun P ρ => T P (fun x ρ' => x.c ∈ cs ∧ P.nx (((ρ'.set i (some (.val (.exc x.c x.y)))).set j (some (.val (.exc x.c x.y)))).set i none)) ρ
theorem pps_try (hs : X.stack = X.env :: X.outer) (hf : X.env.frame = some X.env.locals) (hex : X.ex = []) (hN : X.N.Nodup) (hi : X.N[i]? = some n) (hj : X.N[j]? = some y) (hln : X.env.scope.names.lookup n = some .local) (hly : X.env.scope.names.lookup y = some .local)
    (hb : ∀ (W : WX) (pn : List (Addr × Obj)) (xe : Value → Shared → Prop), Takes (X.tr pn xe) W → PassesOwn (model X.prog X.w) X.A X.env xe → PXSs (X.tr pn xe) W body (liftXS X.K W T) T)
    (hh : ∀ C, (∃ c ∈ cs, PySem.W.nsIn X.K mainGlobals c = some (some (.ref C))) → Hits X tt (.ref C))
    (sw : swapsWith (.Name n p2) (some (.Name y p1)) p3.line X.env = pure false := by rfl) (hd : (n == ("__debug__" : Str)) = false := by decide) (hcd : (n == ("__classdict__" : Str)) = false := by decide) (hU : unl ∉ cs := by decide) :
    PPS X (.Try body [.ExceptHandler (some tt) (some n) [.Assign [.Name y p1] (.Name n p2) p3] pos'] [] [] pos) (fun D σ H => liftXS X.K (wKeep i j (fun C => ∃ c ∈ cs, PySem.W.nsIn X.K mainGlobals c = some (some (.ref C))) D) T D σ H) (pTry i j cs T) :=
  ⟨ps_try_keep (tb := fun W => liftXS X.K W T) hs hf hex hN hi hj hln hly (fun W pn xe tk po => (hb W pn xe tk po).ps) hh sw hd hcd, fun G F H σ ρ P D S hT r => by
    refine ⟨G, F, ρ, P, _, S, hT, r, fun F' H' σ' ρ' cls d x u S' xr q => ?_⟩
    obtain ⟨C, h2, h⟩ := xr
    obtain ⟨h1, dd, v, h3, h4, h5⟩ : PySem.W.nsIn X.K mainGlobals x.c = some (some (.ref C)) ∧ ∃ (dd : Addr) (v : V), d = some dd ∧ F' dd = some (.xd [(xfield x.c, v)]) ∧ Rep X.K F' v x.y := by
      rcases h with h | h
      · exact h.2
      · exact absurd (h.1 ▸ q.1) hU
    refine ⟨C, dd, h2, h3, ⟨x.c, q.1, h1⟩, fun a na => ?_⟩
    have fa : F' a = none := S'.freshF na
    have S1 := S'.new (o := exk a C dd) na
    have rp : Rep X.K (upd F' a (exk a C dd)) (.ref a) (.exc x.c x.y) := .exc h1 upd_same (by rw [upd_ne (ne_of_none h4 fa)]; exact h4) (h5.mono (same_new fa))
    exact r.nx _ _ _ _ (u.trans (S'.upNew na)) (((S1.setVal i rp).setVal j rp).forget i none) q.2⟩
end
end
section
variable {P : Program} {w : World} {K : PySem.W.Frag} {mg : Str → Option Value} {base : Heap} {x qual : Str} {st : Stmt} {f : Addr} {fd : FuncData} {N ps : List Str} {k : Nat}
theorem okX {g : FX} {T : TXs} (Fn : Fun K x qual st f fd) (S : FnScope N ps (defScope st))
    (hb : ∀ (cdv : Value) (A : Around) (outer : List Env) (s : Shared) (H : Hp) (E : XK), Room k (A.deeper (envOfC qual (defScope st) s.heap.objs.size f cdv)) → ∃ t, PXSs (cxOf (L2.CX P w) P w K mg base N qual (defScope st) f cdv A outer s H E) (fun cls d _ H => E cls d H) (defBody st) t T)
    (hT : ∀ ds C, ds.length = ps.length → g ds C → T { nx := fun _ => False, rt := fun _ _ => False } (fun x _ => C x) (startA N ds)) : FnOk P w K mg base (L2.CX P w) (k + 1) f fd ps (spX K ps.length g) := by
  refine Fn.okX S (fun vs H Q E h => ?_) (fun cdv A outer s H vs Q E hr h => ?_)
  · obtain ⟨F, ds, C, hl, _⟩ := h
    exact hl
  · obtain ⟨F, ds, C, hl, hF, r, hg, hQ⟩ := h
    obtain ⟨t, ht⟩ := hb cdv A outer s H E hr
    refine ⟨t, ht.ps, ?_⟩
    have S0 : Sim K H F H (L2.start N vs) (startA N ds) := by
      unfold L2.start startA
      rw [r.length]
      exact sim_vals hF (.rfl' F H) r _
    exact ht.snd H F H _ _ _ _ _ S0 (hT ds C (by rw [← r.length]; exact hl) hg) ⟨fun _ _ _ _ _ _ q => q.elim, fun _ _ _ _ _ _ _ _ q => q.elim, fun _ _ _ _ _ _ q => q, fun _ _ _ _ _ _ q => q⟩
      fun F' H' σ' ρ' cls d x u S' xr q => hQ x cls d F' H' u S'.hF S'.hG xr q
end
end Pl
namespace Pl
open PySem PySem.Spec PyProof.Rows L2
section
variable [TJ]
theorem xb_value (c : Str) (h : c ∈ (["Clash", "Against", "Unlike", "Astray", "BadText", "BadRow"] : List Str)) : xb c = .v := if_pos h
def inS (st : Stmt) (j : Nat) : Stmt := match st with
  | .ClassDef _ _ _ body _ _ _ _ _ _ _ => body.getD j (.Pass ⟨0, 0, 0, 0⟩)
  | _ => .Pass ⟨0, 0, 0, 0⟩
abbrev xtl (c : Str) : List Value := (xb c).tl.map Value.type
structure XCl (K : PySem.W.Frag) (mg : Str → Option Value) (c : Str) (C : Addr) : Prop where
  cls : ∃ q N bs sn sub ab col dd k0 k1 k2 k3 k5, K.lookup C = some (excClassObj c q C N bs (xtl c) true sn sub ab col dd k0 k1 k2 k3 k5 (xb c).new)
  sa : PySem.W.findIn K (.ref C) "__setattr__" = some (some (.builtin "object.__setattr__"))
  exC : PySem.W.subIn K (.ref C) (.type "BaseException") = some true
  tyC : PySem.W.typeIn K (.ref C) = some (.type "type")
  kC : PySem.W.keepIn K (.ref C) = true
  ask : AskX K C
  ns : PySem.W.nsIn K mainGlobals c = some (some (.ref C))
  fno : PySem.W.findIn K (.ref C) (xfield c) = some none
  gm : mg c = some (.ref C)
section
variable {K : PySem.W.Frag} {mg : Str → Option Value} {c c2 : Str} {C C2 : Addr}
theorem XCl.own (T : XCl K mg c C) : OwnX K C (xb c).new (xtl c) := by
  obtain ⟨q, N, bs, sn, sub, ab, col, dd, k0, k1, k2, k3, k5, h⟩ := T.cls
  exact ⟨⟨c, q, N, bs, sn, sub, ab, col, dd, k0, k1, k2, k3, k5, h⟩, T.sa, T.exC, T.tyC, T.kC⟩
theorem XCl.same (T : XCl K mg c C) (h : PySem.W.nsIn K mainGlobals c = some (some (.ref C2))) : C2 = C := by
  rw [T.ns] at h
  cases h; rfl
theorem XCl.ne (T : XCl K mg c C) (T2 : XCl K mg c2 C2) (h : c ≠ c2) : C ≠ C2 := fun z => by
  obtain ⟨q, N, bs, sn, sub, ab, col, dd, k0, k1, k2, k3, k5, e⟩ := T.cls
  obtain ⟨q', N', bs', sn', sub', ab', col', dd', j0, j1, j2, j3, j5, e'⟩ := T2.cls
  subst z
  rw [e] at e'
  have z := Option.some.inj e'
  unfold excClassObj at z
  injection z with _ _ z _
  injection z with z
  injection z with z
  exact h z
theorem xtl_obj (c : Str) : (xtl c).contains (.type "object") = true := by
  unfold xtl
  cases xb c <;> decide +kernel
def isaX (c n : Str) : Bool := c == n || (xb c).tl.any fun s => Str.ofString s == n
theorem XCl.kit (T : XCl K mg c C) (T2 : XCl K mg c2 C2) (hb : ∀ b : XB, (b.tl.any fun s => Str.ofString s == c2) = false) : PySem.W.kitOne K (.ref C) (.ref C2) = some (isaX c c2) := by
  have e : isaX c c2 = (c == c2) := by unfold isaX; rw [hb, Bool.or_false]
  rw [e]
  unfold PySem.W.kitOne
  by_cases h : c = c2
  · subst h
    obtain rfl := T.same T2.ns
    rw [if_pos (by simp)]; simp
  · have ne : C ≠ C2 := T.ne T2 h
    have e1 : (Value.ref C == Value.ref C2) = false := by
      cases q : (Value.ref C == Value.ref C2) with
      | false => rfl
      | true => exact absurd (Value.ref.inj (beq_iff_eq.mp q)) ne
    have e2 : (c == c2) = false := by simpa using h
    rw [if_neg (by rw [e1]; decide), e2]
    obtain ⟨cd, h1, _⟩ := T2.own.cd
    show (if ((PySem.W.clsIn K C2).isSome && PySem.W.typeIn K (.ref C2) == some (.type "type")) = true then PySem.W.subIn K (.ref C) (.ref C2) else none) = some false
    rw [h1, T2.tyC, if_pos (by rfl)]
    show PySem.W.mroIn K C (.ref C2) = some false
    rw [T.own.mro, e1, Bool.false_or]
    unfold xtl
    cases xb c <;> rfl
theorem XCl.kitB (T : XCl K mg c C) {n : String} (hc : c ≠ Str.ofString n) (hm : PySem.W.kitMeta n = true) (hb : ∀ b : XB, (b.tl.map Value.type).contains (.type n) = b.tl.any fun s => Str.ofString s == Str.ofString n) : PySem.W.kitOne K (.ref C) (.type n) = some (isaX c (Str.ofString n)) := by
  have e2 : (c == Str.ofString n) = false := by simpa using hc
  have e : isaX c (Str.ofString n) = ((xb c).tl.any fun s => Str.ofString s == Str.ofString n) := by unfold isaX; rw [e2, Bool.false_or]
  rw [e]
  unfold PySem.W.kitOne
  rw [if_neg (by rw [show (Value.ref C == Value.type n) = false from rfl]; decide)]
  show (if PySem.W.kitMeta n = true then PySem.W.subIn K (.ref C) (.type n) else none) = _
  rw [if_pos hm]
  show PySem.W.mroIn K C (.type n) = _
  rw [T.own.mro, ← hb]
  show some (false || _) = _
  rw [Bool.false_or]
theorem XCl.exm (T : XCl K mg c C) (T2 : XCl K mg c2 C2) (hb : ∀ b : XB, (b.tl.any fun s => Str.ofString s == c2) = false) : PySem.W.exmOne K (.ref C) (.ref C2) = some (c == c2) := by
  unfold PySem.W.exmOne
  rw [T2.exC, if_pos (by rfl)]
  obtain ⟨cd, h1, _⟩ := T2.own.cd
  show (if ((PySem.W.clsIn K C2).isSome && PySem.W.typeIn K (.ref C2) == some (.type "type")) = true then PySem.W.subIn K (.ref C) (.ref C2) else none) = _
  rw [h1, T2.tyC, if_pos (by rfl)]
  show PySem.W.mroIn K C (.ref C2) = _
  rw [T.own.mro]
  have z : (xtl c).contains (.ref C2) = false := by unfold xtl; cases xb c <;> rfl
  rw [z, Bool.or_false]
  by_cases h : c = c2
  · subst h
    obtain rfl := T.same T2.ns
    simp
  · have e2 : (c == c2) = false := by simpa using h
    rw [e2]
    cases q : (Value.ref C == Value.ref C2) with
    | false => rfl
    | true => exact absurd (Value.ref.inj (beq_iff_eq.mp q)) (T.ne T2 h)
end
def XCs (K : PySem.W.Frag) (mg : Str → Option Value) (cs : List Str) : Prop := ∀ c ∈ cs, ∃ C, XCl K mg c C
theorem xcs_nil {K : PySem.W.Frag} {mg : Str → Option Value} : XCs K mg [] := fun _ h => nomatch h
theorem xcs_cons {K : PySem.W.Frag} {mg : Str → Option Value} {c : Str} {C : Addr} {cs : List Str} (h : XCl K mg c C) (t : XCs K mg cs) : XCs K mg (c :: cs) := fun x hx => by
  rcases List.mem_cons.mp hx with rfl | hx
  · exact ⟨C, h⟩
  · exact t x hx
theorem exmAny_of {K : PySem.W.Frag} {cls : Value} : ∀ {us : List Value} {bs : List Bool}, us.length = bs.length → (∀ (i : Nat) u b, us[i]? = some u → bs[i]? = some b → PySem.W.exmOne K cls u = some b) → PySem.W.exmAny K cls us = some (bs.any id)
  | [], [], _, _ => rfl
  | u :: us, b :: bs, hl, h => by
    have h0 := h 0 u b rfl rfl
    have ih := exmAny_of (us := us) (bs := bs) (by simpa using hl) fun i v c e1 e2 => h (i + 1) v c e1 e2
    show (match PySem.W.exmOne K cls u, PySem.W.exmAny K cls us with | some b, some d => some (b || d) | _, _ => none) = _
    rw [h0, ih]
    rfl
section
variable {X : Cx} {c1 c2 c3 c4 : Str} {C1 C2 C3 C4 C : Addr} {p1 p2 p3 p4 tp : Pos} {kk : Nat}
abbrev HitOk (X : Cx) (cs : List Str) (tt : Expr) : Prop := ∀ C, (∃ c ∈ cs, PySem.W.nsIn X.K mainGlobals c = some (some (.ref C))) → Hits X tt (.ref C)
abbrev noB (n : Str) : Prop := ∀ b : XB, (b.tl.any fun s => Str.ofString s == n) = false
theorem named_of (T : XCl X.K X.mg c1 C1) (hg : Gl X c1) (hd : (c1 == ("__debug__" : Str)) = false) : Named X c1 C1 := ⟨hg, hd, T.gm⟩
theorem hit3 (T1 : XCl X.K X.mg c1 C1) (T2 : XCl X.K X.mg c2 C2) (T3 : XCl X.K X.mg c3 C3) (g1 : Gl X c1) (g2 : Gl X c2) (g3 : Gl X c3) (n1 : noB c1 := by intro b; cases b <;> decide +kernel) (n2 : noB c2 := by intro b; cases b <;> decide +kernel) (n3 : noB c3 := by intro b; cases b <;> decide +kernel)
    (d1 : (c1 == ("__debug__" : Str)) = false := by decide) (d2 : (c2 == ("__debug__" : Str)) = false := by decide) (d3 : (c3 == ("__debug__" : Str)) = false := by decide) : HitOk X [c1, c2, c3] (.Tuple [.Name c1 p1, .Name c2 p2, .Name c3 p3] kk tp) := fun C ⟨c, hc, e⟩ => by
  have key : ∀ (T : XCl X.K X.mg c C), c ∈ [c1, c2, c3] → PySem.W.exmAny X.K (.ref C) [.ref C1, .ref C2, .ref C3] = some true := fun T hc => by
    rw [exmAny_of (bs := [c == c1, c == c2, c == c3]) rfl fun i u b e1 e2 => by
      match i, e1, e2 with
      | 0, e1, e2 => cases e1; cases e2; exact T.exm T1 n1
      | 1, e1, e2 => cases e1; cases e2; exact T.exm T2 n2
      | 2, e1, e2 => cases e1; cases e2; exact T.exm T3 n3]
    simp only [List.mem_cons, List.not_mem_nil, or_false] at hc
    rcases hc with rfl | rfl | rfl <;> simp
  simp only [List.mem_cons, List.not_mem_nil, or_false] at hc
  refine hits3 (named_of T1 g1 d1) (named_of T2 g2 d2) (named_of T3 g3 d3) ?_
  rcases hc with rfl | rfl | rfl
  · obtain rfl := T1.same e; exact key T1 (by simp)
  · obtain rfl := T2.same e; exact key T2 (by simp)
  · obtain rfl := T3.same e; exact key T3 (by simp)
end
structure ItX (X : Cx) (cs : List Str) (n : Str) (v : V) : Prop where
  ex : ∃ u, ClsV v u ∧ ∀ c ∈ cs, ∀ C, XCl X.K X.mg c C → PySem.W.kitOne X.K (.ref C) u = some (isaX c n)
  pe : ∀ pos, PE X (.Name n pos) (tC v)
section
variable {X : Cx} {cs : List Str}
theorem itx_own {n : Str} {C2 : Addr} (T2 : XCl X.K X.mg n C2) (hg : Gl X n) (hn : noB n := by intro b; cases b <;> decide +kernel) (hd : (n == ("__debug__" : Str)) = false := by decide) : ItX X cs n (.ref C2) :=
  ⟨⟨.ref C2, .own C2, fun c _ C T => T.kit T2 hn⟩, fun pos => pe_glob hg T2.gm rfl hd⟩
theorem itx_blt {n : String} (hg : Gl X (Str.ofString n)) (hm : X.mg (Str.ofString n) = none) (hcs : ∀ c ∈ cs, c ≠ Str.ofString n := by decide) (hk : PySem.W.kitMeta n = true := by decide +kernel)
    (hb : ∀ b : XB, (b.tl.map Value.type).contains (.type n) = b.tl.any (fun s => Str.ofString s == Str.ofString n) := by intro b; cases b <;> decide +kernel) (hv : bootBuiltins (Str.ofString n) = some (.type n) := by decide +kernel)
    (hnn : Str.ofString n ≠ "__name__" := by decide) (hd : (Str.ofString n == ("__debug__" : Str)) = false := by decide) : ItX X cs (Str.ofString n) (.ty n) :=
  ⟨⟨.type n, .ty n, fun c hc C T => T.kitB (hcs c hc) hk hb⟩, fun pos => pe_bltn hg hm hv rfl hnn hd⟩
def isXw (cs ns : List Str) (d : D) (k : Bool → Prop) : Prop := match d with
  | .exc c _ => c ∈ cs ∧ k (ns.any (isaX c))
  | _ => False
def pIsX (cs ns : List Str) (Te : TEp) : TEp := fun ρ Q => Te ρ fun d ρ1 => isXw cs ns d fun b => Q (.bl b) ρ1
variable {e : Expr} {te : TE} {Te : TEp} {pos fp : Pos} {n1 n2 n3 : Str} {v1 v2 v3 : V} {q1 q2 q3 tp : Pos} {kk : Nat}
theorem isX_look {K : PySem.W.Frag} {F H : Hp} {v : V} {d : D} {cs ns : List Str} {k : Bool → Prop} (r : Rep K F v d) (h : isXw cs ns d k) : ∃ (a C dd : Addr) (w : V) (c : Str), v = .ref a ∧ F a = some (exk a C dd) ∧ F dd = some (.xd [(xfield c, w)]) ∧ PySem.W.nsIn K mainGlobals c = some (some (.ref C)) ∧ c ∈ cs ∧ k (ns.any (isaX c)) := by
  cases r with
  | exc h1 h2 h3 h4 => exact ⟨_, _, _, _, _, rfl, h2, h3, h1, h.1, h.2⟩
  | _ => exact h.elim
theorem ppe_isX (Zc : XCs X.K X.mg cs) (I1 : ItX X cs n1 v1) (hg : Gl X "isinstance") (hm : X.mg "isinstance" = none) (he : PPE X e te Te)
    (hs : starEach [e, .Name n1 q1] X.env = (false, eval e X.env) :: starEach [.Name n1 q1] X.env := by rfl) (hs2 : starEach [.Name n1 q1] X.env = (false, eval (.Name n1 q1) X.env) :: starEach [] X.env := by rfl) (hpl : (backTo pos (starEach [.Name n1 q1] X.env)).any (·.1) = false := by rfl) :
    PPE X (.Call (.Name "isinstance" fp) [e, .Name n1 q1] [] pos) (tCB (rIsX X.K) (tCons te (tCons (tC v1) tNil))) (pIsX cs [n1] Te) :=
  ⟨pe_callB call_isX hg hm (by decide +kernel) (pa_cons he.pe (pa_cons (I1.pe q1) pa_nil hs2) hs) (by decide) (by decide) hs hpl, fun G F H σ ρ Q R S hT k =>
    he.snd G F H σ ρ _ _ S hT fun v d F1 H1 ρ1 u1 S1 r1 h1 => by
      obtain ⟨a, C, dd, w, c, rfl, e1, e2, e3, hc, q⟩ := isX_look (H := H1) r1 h1
      obtain ⟨C', T⟩ := Zc c hc
      obtain rfl := T.same e3
      obtain ⟨u, cv, hk⟩ := I1.ex
      have hk := hk c hc C T
      refine ⟨a, C, dd, _, _, _, v1, u, _, rfl, S1.hF _ _ e1, S1.hF _ _ e2, T.own, xtl_obj c, T.ask, cv, hk, k _ _ F1 H1 ρ1 u1 S1 (.bl _) ?_⟩
      have q' := q
      simp only [List.any_cons, List.any_nil, Bool.or_false] at q'
      exact q'⟩
theorem ppe_isX2 (Zc : XCs X.K X.mg cs) (I1 : ItX X cs n1 v1) (I2 : ItX X cs n2 v2) (hg : Gl X "isinstance") (hm : X.mg "isinstance" = none) (he : PPE X e te Te)
    (hs : starEach [e, .Tuple [.Name n1 q1, .Name n2 q2] kk tp] X.env = (false, eval e X.env) :: starEach [.Tuple [.Name n1 q1, .Name n2 q2] kk tp] X.env := by rfl) (hs2 : starEach [.Tuple [.Name n1 q1, .Name n2 q2] kk tp] X.env = (false, eval (.Tuple [.Name n1 q1, .Name n2 q2] kk tp) X.env) :: starEach [] X.env := by rfl)
    (hs3 : starEach [.Name n1 q1, .Name n2 q2] X.env = (false, eval (.Name n1 q1) X.env) :: starEach [.Name n2 q2] X.env := by rfl) (hs4 : starEach [.Name n2 q2] X.env = (false, eval (.Name n2 q2) X.env) :: starEach [] X.env := by rfl)
    (hpl : (backTo pos (starEach [.Tuple [.Name n1 q1, .Name n2 q2] kk tp] X.env)).any (·.1) = false := by rfl) :
    PPE X (.Call (.Name "isinstance" fp) [e, .Tuple [.Name n1 q1, .Name n2 q2] kk tp] [] pos) (tCB (rIsXT X.K) (tCons te (tCons (tTup (tCons (tC v1) (tCons (tC v2) tNil))) tNil))) (pIsX cs [n1, n2] Te) :=
  ⟨pe_callB call_isXT hg hm (by decide +kernel) (pa_cons he.pe (pa_cons (pe_tup (pa_cons (I1.pe q1) (pa_cons (I2.pe q2) pa_nil hs4) hs3)) pa_nil hs2) hs) (by decide) (by decide) hs hpl, fun G F H σ ρ Q R S hT k =>
    he.snd G F H σ ρ _ _ S hT fun v d F1 H1 ρ1 u1 S1 r1 h1 => by
      obtain ⟨a, C, dd, w, c, rfl, e1, e2, e3, hc, q⟩ := isX_look (H := H1) r1 h1
      obtain ⟨C', T⟩ := Zc c hc
      obtain rfl := T.same e3
      obtain ⟨u, cv, hk⟩ := I1.ex
      obtain ⟨u2, cv2, hk2⟩ := I2.ex
      refine ⟨by show (2 : Nat) ≤ sizeLine; decide, fun p hp => ?_⟩
      have sm := same_new (o := HO.tup [v1, v2]) hp
      refine ⟨a, C, dd, p, _, _, _, [v1, v2], [u, u2], _, rfl, sm _ _ (S1.hF _ _ e1), sm _ _ (S1.hF _ _ e2), T.own, xtl_obj c, T.ask, upd_same, .cons cv (.cons cv2 .nil), ?_, k _ _ F1 _ ρ1 u1 (S1.more hp) (.bl _) q⟩
      exact kitAny_cons (hk c hc C T) (fun h => kitAny_cons (hk2 c hc C T) (fun h2 => by rw [kitAny_nil]; simp [List.any, h, h2]) fun h2 => by simp [List.any, h2]) fun h => by simp [List.any, h]⟩
def pXf (cs : List Str) (f : Str) (Te : TEp) : TEp := fun ρ Q => Te ρ fun d ρ1 => match d with
  | .exc c y => c ∈ cs ∧ xfield c = f ∧ Q y ρ1
  | _ => False
theorem ppe_xf {f : Str} (Zc : XCs X.K X.mg cs) (he : PPE X e te Te) (hb : attributeBase e f X.env (eval e X.env) = eval e X.env := by rfl) : PPE X (.Attribute e f pos) (tXfk X.K f te) (pXf cs f Te) :=
  ⟨pe_xfk he.pe hb, fun G F H σ ρ Q R S hT k => he.snd G F H σ ρ _ _ S hT fun v d F1 H1 ρ1 u1 S1 r1 h1 => by
    cases r1 with
    | @exc a C dd w c y e3 e1 e2 rw' =>
      obtain ⟨hc, hf, q⟩ := h1
      obtain ⟨C', T⟩ := Zc c hc
      obtain rfl := T.same e3
      refine ⟨a, C, dd, _, _, _, w, rfl, S1.hF _ _ e1, S1.hF _ _ e2, T.own, T.ask, by rw [← hf]; exact T.fno, by simp [List.lookup, hf], k w y F1 H1 ρ1 u1 S1 rw' q⟩
    | _ => exact h1.elim⟩
end
end
def RdI (K : PySem.W.Frag) (C : Addr) (ok : D → Prop) (te : TE) : Prop := ∀ (F H : Hp) (a : Addr) (v : V) (d : D) (Q : VK), Same F H → F a = none → H a = some (exo a C none) → Rep K F v d → ok d →
  (∀ v' F' H', Up H F F' → Same F' H' → Same H H' → Rep K F' v' d → Q v' H') → te [some (.ref a), some v] H Q
theorem rdi_call {K : PySem.W.Frag} {C : Addr} {ok : D → Prop} {g : FA} (hg : ∀ d, ok d → ∀ P : Cell → Prop, (∀ c, c.froz = d → P c) → g [d] P) : RdI K C ok (tCall (spA K 1 g) [] (fun _ _ _ => False) (tCons (tVar 1) tNil)) := fun F H a v d Q hF fa ea r ho k => by
  refine ⟨v, rfl, ?_⟩
  show spA K 1 g ([v] ++ []) H Q fun _ _ _ => False
  refine ⟨F, [d], fun c => c.froz = d, rfl, hF, .cons r .nil, hg d ho _ fun c h => h, fun w c F' H' u S e => ?_⟩
  obtain ⟨F2, u2, S2, r2⟩ := Sim.froz (σ := []) (ρ := []) S.sim
  rw [e] at r2
  exact k w F2 H' (u.trans u2) S2.hF S2.hG r2
section
variable {P : Program} {w : World} {K : PySem.W.Frag} {mg : Str → Option Value} {base : Heap} {c : Str} {C : Addr} {x qual m p : Str} {st : Stmt} {f : Addr} {fd : FuncData} {k : Nat} {ok : D → Prop}
theorem ok_init (Fn : Fun K x qual st f fd) (S : FnScope ["self", p] ["self", p] (defScope st)) (T : XCl K mg c C)
    (hb : ∀ (cdv : Value) (A : Around) (outer : List Env) (s : Shared) (H : Hp) (E : XK), Room k (A.deeper (envOfC qual (defScope st) s.heap.objs.size f cdv)) → ∃ te, RdI K C ok te ∧
      PSs (cxOf CX0 P w K mg base ["self", p] qual (defScope st) f cdv A outer s H E).nox (defBody st) (tSeq (tDrop (tOyI K (xb c).new (xtl c) (tCons (tVar 0) (tCons (tC (.str m)) tNil)))) (tOyS K (xb c).new (xtl c) (xfield c) (tVar 0) te))) :
    FnOk P w K mg base CX0 (k + 1) f fd ["self", p] (spI K c C ok) := by
  refine Fn.ok S (fun vs H Q E h => ?_) (fun cdv A outer s H vs Q E hr h => ?_)
  · obtain ⟨F, a, v, d, rfl, _⟩ := h
    rfl
  · obtain ⟨te, hte, ht⟩ := hb cdv A outer s H E hr
    refine ⟨_, ht, ?_⟩
    obtain ⟨F, a, v, d, rfl, ea, fa, hF, r, ho, k'⟩ := h
    refine ⟨.ref a, rfl, a, C, [.str m], rfl, by show (1 : Nat) ≤ 1000; decide, T.own, ea, ?_⟩
    refine hte F H a v d _ hF fa ea r ho fun v' F' H' u sF sH r' => ?_
    refine ⟨.ref a, rfl, a, C, rfl, T.own, T.fno, sH _ _ ea, fun dx nd ne => ?_⟩
    have Hd : H dx = none := sH.free nd
    refine k' dx v' F' _ upd_same (by rw [upd_ne ne, upd_same]) Hd ne u (sF.free nd) (fun b o nb q => ?_) (fun b o nb q => ?_) r'
    · rw [upd_ne nb, upd_ne (ne_of_none (sF _ _ q) nd)]; exact sF _ _ q
    · rw [upd_ne nb, upd_ne (ne_of_none (sH _ _ q) nd)]; exact sH _ _ q
end
end Pl
namespace Pl
open PySem PySem.Spec PyProof.Rows L2
def TX_bounds (g_refuse_clash : FA) (g_least_ahead : FA) (g_most_ahead : FA) (gx_refuse_clash : FX) : TXs :=
  (xSeq (xOr (pDrop (pFrz (pCallA 1 g_refuse_clash (pCons (pVar 2) pNil))))
    (xE (xCall 1 gx_refuse_clash (pCons (pVar 2) pNil))))
    (xOk (pRet (pLcO (jRng1 (pCons (pLenO 1) pNil)) (hName 3) pYes (pTup (pCons (pFrz (pCallA 2 g_least_ahead (pCons (pVar 2) (pCons (pVar 3) pNil)))) (pCons (pFrz (pCallA 3 g_most_ahead (pCons (pVar 0) (pCons (pVar 2) (pCons (pVar 3) pNil))))) pNil))) [3]))))
def TX_refuse_clash (g_first_clash : FA) (ok_Clash : D → Prop) : TXs :=
  (xSeq (xOk (pSet 1 (pCallA 1 g_first_clash (pCons (pVar 0) pNil))))
    (xIfS (pTest (pOp fNotN (pVar 1) (pC .non)))
    (xRaise "Clash" ok_Clash (pCons (pVar 1) pNil))
    xNext))
def TX_least_order (g_bounds : FA) (g_order_with : FA) (gx_bounds : FX) : TXs :=
  (xOr (pRet (pCallA 2 g_order_with (pCons (pLc (jSeq (pFrz (pCallA 3 g_bounds (pCons (pVar 0) (pCons (pVar 1) (pCons (pVar 2) pNil)))))) (hTup 2 (hCons (hName 3) (hCons (hName 4) hNil))) pYes (pVar 4) [3, 4]) (pCons (pLenO 0) pNil))))
    (xE (xCall 3 gx_bounds (pCons (pVar 0) (pCons (pVar 1) (pCons (pVar 2) pNil))))))
def TX_greatest_order (g_bounds : FA) (g_order_with : FA) (gx_bounds : FX) : TXs :=
  (xOr (pRet (pCallA 2 g_order_with (pCons (pLc (jSeq (pFrz (pCallA 3 g_bounds (pCons (pVar 0) (pCons (pVar 1) (pCons (pVar 2) pNil)))))) (hTup 2 (hCons (hName 3) (hCons (hName 4) hNil))) pYes (pVar 3) [3, 4]) (pCons (pLenO 0) pNil))))
    (xE (xCall 3 gx_bounds (pCons (pVar 0) (pCons (pVar 1) (pCons (pVar 2) pNil))))))
def TX_may_stand (g_behind : FA) (g_almanac_of : FA) (g_least_order : FA) (g_greatest_order : FA) (gx_least_order : FX) (gx_greatest_order : FX) : TXs :=
  (xSeq (xOr (pSet 4 (pCallA 3 g_almanac_of (pCons (pVar 1) (pCons (pVar 2) (pCons (pFrz (pCallA 3 g_least_order (pCons (pVar 1) (pCons (pVar 2) (pCons (pVar 3) pNil))))) pNil)))))
    (xE (xThere (pVar 1) (xThere (pVar 2) (xCall 3 gx_least_order (pCons (pVar 1) (pCons (pVar 2) (pCons (pVar 3) pNil))))))))
    (xSeq (xOr (pSet 5 (pCallA 3 g_almanac_of (pCons (pVar 1) (pCons (pVar 2) (pCons (pFrz (pCallA 3 g_greatest_order (pCons (pVar 1) (pCons (pVar 2) (pCons (pVar 3) pNil))))) pNil)))))
    (xE (xThere (pVar 1) (xThere (pVar 2) (xCall 3 gx_greatest_order (pCons (pVar 1) (pCons (pVar 2) (pCons (pVar 3) pNil))))))))
    (xOk (pRet (pVal (pTup (pCons (pFrz (pCallA 2 g_behind (pCons (pVar 0) (pCons (pVar 4) pNil)))) (pCons (pFrz (pCallA 2 g_behind (pCons (pVar 0) (pCons (pVar 5) pNil)))) pNil))))))))
def TX_sure_posts (g_may_stand : FA) (gx_may_stand : FX) : TXs :=
  (xSeq (xOr (pAsg (pFrz (pCallA 4 g_may_stand (pCons (pVar 0) (pCons (pVar 1) (pCons (pVar 2) (pCons (pVar 3) pNil)))))) (hTup 2 (hCons (hName 4) (hCons (hName 5) hNil))))
    (xE (xCall 4 gx_may_stand (pCons (pVar 0) (pCons (pVar 1) (pCons (pVar 2) (pCons (pVar 3) pNil)))))))
    (xOk (pRet (pLcO (jE (pCons (pVar 4) pNil)) (hTup 2 (hCons (hName 6) (hCons (hName 7) hNil))) (pTest (pOp fEq (pVar 7) (pIxO 5 (pVar 6)))) (pVar 6) [6, 7]))))
end Pl
namespace Pl
open PySem PySem.Spec PyProof.Rows L2
abbrev EX (C : XD → Prop) : XP := fun x _ => C x
abbrev E0 : PEnds := { nx := fun _ => False, rt := fun _ _ => False }
end Pl
namespace Pl
open PySem PySem.Spec PyProof.Rows L2
theorem fr_rgo {g : TGp} {tb : TSp} {P : PEnds} {ρ : Ro} {lo : Int} {m : Nat} (n : Nat) (I : Nat → Ro → Prop) (e : m = n) (h0 : I 0 ρ) (hs : ∀ (j : Nat) (ρ : Ro) (K : Ro → Prop), j < n → I j ρ → (∀ ρ', I (j + 1) ρ' → K ρ') → g (.int (lo + (j : Int))) ρ fun ρ1 => tb { P with nx := K, ct := K, bk := P.nx } ρ1) (he : ∀ ρ, I n ρ → P.nx ρ) : forW g tb P (rangeD lo m) ρ := by
  subst e
  refine fr_mp (List.range m) (fun (t : Nat) => D.int (lo + (t : Int))) (fun r ρ => ∃ t, r = List.range' t (m - t) ∧ t ≤ m ∧ I t ρ) rfl ⟨0, by rw [List.range_eq_range']; rfl, Nat.zero_le _, h0⟩ (fun x r ρ K hI hK => ?_) (fun ρ hI => ?_)
  · obtain ⟨t, e, ht, hI⟩ := hI
    obtain ⟨k, hk⟩ : ∃ k, m - t = k + 1 := ⟨m - t - 1, by
      cases q : m - t with
      | zero => rw [q] at e; cases e
      | succ k => rfl⟩
    rw [hk, List.range'_succ] at e
    obtain ⟨rfl, rfl⟩ := List.cons.inj e
    exact hs x ρ K (by omega) hI fun ρ' h => hK _ ⟨x + 1, by rw [show m - (x + 1) = k by omega], by omega, h⟩
  · obtain ⟨t, e, ht, hI⟩ := hI
    have : t = m := by
      cases q : m - t with
      | zero => omega
      | succ k => rw [q] at e; cases e
    subst this
    exact he ρ hI
def PairsFree (ws : List Wo) (i j : Nat) : Prop := ∀ (a b : Nat) (u v : Wo), a < b → ws[a]? = some u → ws[b]? = some v → (a < i ∨ a = i ∧ b < j) → contr u v = false
structure CW (ws : List Wo) (i j : Nat) : Prop where
  lt : i < j
  ex : ∃ u v, ws[i]? = some u ∧ ws[j]? = some v ∧ contr u v = true
  free : PairsFree ws i j
def NoPair (ws : List Wo) : Prop := ∀ (a b : Nat) (u v : Wo), a < b → ws[a]? = some u → ws[b]? = some v → contr u v = false
def plD (i j : Nat) : D := .tup [.int ((i : Nat) : Int), .int ((j : Nat) : Int)]
def g_first_clashG : FA := fun ds C => ∃ r d ws, ds = [d] ∧ (WsF r) d ws ∧ ws.length ≤ 1000 ∧ (∀ i j, CW ws i j → C (.val (plD i j))) ∧ (NoPair ws → C (.val .non))
theorem rd_first_clashG : ∀ ds C, ds.length = 1 → g_first_clashG ds C → T_first_clash g_are_contraryA (EA C) (startA N_first_clash ds) := by
  rintro ds C - ⟨r, d, ws, rfl, hd, hl, hF, hN⟩
  have ix : ∀ {j : Nat} {w : Wo} {Q : D → Prop}, ws[j]? = some w → Q (wF r w) → fIx d (.int ((j : Nat) : Int)) Q := by
    intro j w Q hj hq
    rcases hd with rfl | rfl
    · exact ⟨_, atI_wordsF hj, hq⟩
    · exact ⟨_, atI_wordsF hj, hq⟩
  have len : ∀ (Q : Int → Prop), Q (ws.length : Nat) → (match d with | .lst xs => Q ((xs.length : Nat) : Int) | .tup xs => Q ((xs.length : Nat) : Int) | _ => False) := by
    intro Q hQ
    rcases hd with rfl | rfl
    · show Q (((wordsF r ws).length : Nat) : Int); rw [wordsF_len]; exact hQ
    · show Q (((wordsF r ws).length : Nat) : Int); rw [wordsF_len]; exact hQ
  have key : ∀ (P : PEnds), (∀ ρ, NoPair ws → P.nx ρ) → (∀ i j ρ, CW ws i j → P.rt (.val (plD i j)) ρ) → forW (hName 1) (pFor (jRng2 (pCons (pOp fAdd (pVar 1) (pC (.int 1))) (pCons (pLenO 0) pNil))) (hName 2) (pIfS (pTest (pFrz (pCallA 2 g_are_contraryA (pCons (pIxO 0 (pVar 1)) (pCons (pIxO 0 (pVar 2)) pNil))))) (pRet (pVal (pTup (pCons (pVar 1) (pCons (pVar 2) pNil))))) pNext)) P (rangeD 0 ws.length) [some (.val d), none, none] := by
    intro P hP hR
    refine fr_rg ws.length (fun i ρ => PairsFree ws i 0 ∧ ∃ w1 w2, ρ = [some (.val d), w1, w2]) rfl ⟨fun a b u v _ _ _ h => by omega, _, _, rfl⟩ (fun i ρ K hi hI hK => ?_) (fun ρ hI => ?_)
    · obtain ⟨hp, w1, w2, rfl⟩ := hI
      have inner : forW (hName 2) (pIfS (pTest (pFrz (pCallA 2 g_are_contraryA (pCons (pIxO 0 (pVar 1)) (pCons (pIxO 0 (pVar 2)) pNil))))) (pRet (pVal (pTup (pCons (pVar 1) (pCons (pVar 2) pNil))))) pNext) { P with nx := K, ct := K, bk := P.nx } (rangeD ((i : Int) + 1) (((ws.length : Nat) : Int) - ((i : Int) + 1)).toNat) [some (.val d), some (.val (.int (i : Int))), w2] := by
        refine fr_rgo (ws.length - (i + 1)) (fun t ρ => PairsFree ws i (i + 1 + t) ∧ ∃ w2, ρ = [some (.val d), some (.val (.int (i : Int))), w2]) (by omega) ⟨fun a b u v hab h1 h2 h => hp a b u v hab h1 h2 (by omega), _, rfl⟩ (fun t ρ K2 ht hI hK2 => ?_) (fun ρ hI => ?_)
        · obtain ⟨hp2, w2, rfl⟩ := hI
          have hj : i + 1 + t < ws.length := by omega
          have ej : ((i : Int) + 1 + (t : Int)) = ((i + 1 + t : Nat) : Int) := by omega
          rw [ej]
          refine ix (List.getElem?_eq_getElem hi) (ix (List.getElem?_eq_getElem hj) ⟨rfl, r, ws[i], ws[i + 1 + t], rfl, ifB (fun h => ?_) (fun h => ?_)⟩)
          · exact ⟨by show (2 : Nat) ≤ sizeLine; decide, hR _ _ _ ⟨by omega, ⟨_, _, List.getElem?_eq_getElem hi, List.getElem?_eq_getElem hj, h⟩, hp2⟩⟩
          · refine hK2 _ ⟨fun a b u v hab h1 h2 hh => ?_, _, rfl⟩
            by_cases q : a = i ∧ b = i + 1 + t
            · obtain ⟨rfl, rfl⟩ := q
              rw [List.getElem?_eq_getElem hi] at h1
              rw [List.getElem?_eq_getElem hj] at h2
              cases h1; cases h2; exact h
            · exact hp2 a b u v hab h1 h2 (by omega)
        · obtain ⟨hp2, w2, rfl⟩ := hI
          refine hK _ ⟨fun a b u v hab h1 h2 hh => hp2 a b u v hab h1 h2 ?_, _, _, rfl⟩
          have : b < ws.length := (List.getElem?_eq_some_iff.mp h2).1
          omega
      rcases hd with rfl | rfl
      · refine ⟨⟨by show (-(2 ^ 62) : Int) ≤ (i : Int) + 1; omega, by show (i : Int) + 1 < 2 ^ 62; omega, by show (-(2 ^ 62) : Int) ≤ (((wordsF r ws).length : Nat) : Int); rw [wordsF_len]; omega, by show (((wordsF r ws).length : Nat) : Int) < 2 ^ 62; rw [wordsF_len]; omega⟩, ?_⟩
        show forW _ _ _ (rangeD ((i : Int) + 1) ((((wordsF r ws).length : Nat) : Int) - ((i : Int) + 1)).toNat) _
        rw [wordsF_len]; exact inner
      · refine ⟨⟨by show (-(2 ^ 62) : Int) ≤ (i : Int) + 1; omega, by show (i : Int) + 1 < 2 ^ 62; omega, by show (-(2 ^ 62) : Int) ≤ (((wordsF r ws).length : Nat) : Int); rw [wordsF_len]; omega, by show (((wordsF r ws).length : Nat) : Int) < 2 ^ 62; rw [wordsF_len]; omega⟩, ?_⟩
        show forW _ _ _ (rangeD ((i : Int) + 1) ((((wordsF r ws).length : Nat) : Int) - ((i : Int) + 1)).toNat) _
        rw [wordsF_len]; exact inner
    · obtain ⟨hp, w1, w2, rfl⟩ := hI
      exact hP _ fun a b u v hab h1 h2 => hp a b u v hab h1 h2 (.inl (List.getElem?_eq_some_iff.mp h1).1)
  have b1 : (-(2 ^ 62) : Int) ≤ (((wordsF r ws).length : Nat) : Int) := by rw [wordsF_len]; omega
  have b2 : (((wordsF r ws).length : Nat) : Int) < 2 ^ 62 := by rw [wordsF_len]; omega
  have b3 : ((((wordsF r ws).length : Nat) : Int)).toNat = ws.length := by rw [wordsF_len]; omega
  rcases hd with rfl | rfl
  · refine ⟨b1, b2, ?_⟩
    rw [b3]
    exact key _ (fun ρ h => hN h) fun i j ρ h => hF i j h
  · refine ⟨b1, b2, ?_⟩
    rw [b3]
    exact key _ (fun ρ h => hN h) fun i j ρ h => hF i j h
theorem NoClash.pair {ws : List Wo} (h : NoClash ws) : NoPair ws := fun a b u v _ h1 h2 => h u (List.mem_of_getElem? h1) v (List.mem_of_getElem? h2)
theorem CW.not {ws : List Wo} {i j : Nat} (h : CW ws i j) : ¬ NoPair ws := fun n => by
  obtain ⟨u, v, h1, h2, h3⟩ := h.ex
  rw [n i j u v h.lt h1 h2] at h3; cases h3
theorem CW.one {ws : List Wo} {i j a b : Nat} (h : CW ws i j) (g : CW ws a b) : a = i ∧ b = j := by
  obtain ⟨u, v, h1, h2, h3⟩ := h.ex
  obtain ⟨u', v', g1, g2, g3⟩ := g.ex
  have p := h.free a b u' v' g.lt g1 g2
  have q := g.free i j u v h.lt h1 h2
  by_cases x : a < i ∨ a = i ∧ b < j
  · rw [p x] at g3; cases g3
  · by_cases y : i < a ∨ i = a ∧ j < b
    · rw [q y] at h3; cases h3
    · omega
def g_refuse_clashG : FA := fun ds C => ∃ r d ws, ds = [d] ∧ (WsF r) d ws ∧ NoClash ws ∧ ws.length ≤ 1000 ∧ C (.val .non)
theorem rd_refuse_clashG : ∀ ds C, ds.length = 1 → g_refuse_clashG ds C → T_refuse_clash g_first_clashG (EA C) (startA N_refuse_clash ds) := by
  rintro ds C - ⟨r, d, ws, rfl, hd, hn, hl, hC⟩
  exact ⟨rfl, r, d, ws, rfl, hd, hl, fun i j h => absurd hn.pair h.not, fun _ => hC⟩
def gCp : Nat → FA
  | 0 => fun _ _ => False
  | n + 1 => fun ds C => ∃ d, ds = [d] ∧ okN n d ∧ ∀ c : Cell, c.froz = d → C c
theorem rd_own_copy (n : Nat) : ∀ ds C, ds.length = 1 → gCp (n + 1) ds C → T_own_copy (gCp n) (EA C) (startA N_own_copy ds) := by
  rintro ds C - ⟨d, rfl, hd, hC⟩
  have seq : ∀ (q : D) (xs : List D) (Q : List D → Ro → Prop), okN n (.lst xs) → (∀ ρ, Q xs ρ) → lcW [1] (hName 1) pYes (pFrz (pCallA 1 (gCp n) (pCons (pVar 1) pNil))) Q xs [] [some (.val q), none] := by
    intro q xs Q hx hQ
    cases n with
    | zero => exact hx.elim
    | succ n =>
      refine lc_mp xs id id (by simp) (fun x hx' K hK => ⟨rfl, x, rfl, hx.2 x hx', fun c hc => ?_⟩) hx.1 ?_
      · show K c.froz _
        rw [hc]; exact hK _ rfl
      · rw [List.map_id]; exact hQ _
  cases d with
  | lst xs => exact seq _ xs _ hd fun ρ a => hC (.own a xs) rfl
  | tup xs =>
    refine seq _ xs _ ?_ fun ρ => hC (.val (.tup xs)) rfl
    cases n with
    | zero => exact hd.elim
    | succ n => exact hd
  | scr ns => cases n <;> exact hd.elim
  | adr a => cases n <;> exact hd.elim
  | exc c y => cases n <;> exact hd.elim
  | non => exact hC _ rfl
  | bl b => exact hC _ rfl
  | int i => exact hC _ rfl
  | str z => exact hC _ rfl
abbrev okC : D → Prop := okN 3
def ClX (ds1 : D) (C : XD → Prop) : Prop := ∃ r ws i j, (WsF r) ds1 ws ∧ ws.length ≤ 1000 ∧ CW ws i j ∧ C ⟨"Clash", plD i j⟩
theorem okC_pl (i j : Nat) : okC (plD i j) := ⟨by show (2 : Nat) ≤ 1000; decide, fun x hx => by
  simp only [List.mem_cons, List.not_mem_nil, or_false] at hx
  rcases hx with rfl | rfl <;> trivial⟩
def gx_refuse_clash : FX := fun ds C => ∃ k, ds = [k] ∧ ClX k C
theorem rdx_refuse_clash : ∀ ds C, ds.length = 1 → gx_refuse_clash ds C → TX_refuse_clash g_first_clashG okC E0 (EX C) (startA N_refuse_clash ds) := by
  rintro ds C - ⟨k, rfl, r, ws, i, j, hk, hl, hF, hC⟩
  refine ⟨rfl, r, k, ws, rfl, hk, hl, fun a b h => ?_, fun h => absurd h hF.not⟩
  obtain ⟨rfl, rfl⟩ := hF.one h
  exact ⟨okC_pl _ _, hC⟩
def gx_bounds : FX := fun ds C => ∃ d e k, ds = [d, e, k] ∧ ClX k C
theorem rdx_bounds {a b c : FA} : ∀ ds C, ds.length = 3 → gx_bounds ds C → TX_bounds a b c gx_refuse_clash E0 (EX C) (startA N_bounds ds) := by
  rintro ds C - ⟨d, e, k, rfl, hC⟩
  exact .inr ⟨rfl, k, rfl, hC⟩
def gx_least_order : FX := gx_bounds
theorem rdx_least_order {a b : FA} : ∀ ds C, ds.length = 3 → gx_least_order ds C → TX_least_order a b gx_bounds E0 (EX C) (startA N_least_order ds) := by
  rintro ds C - ⟨d, e, k, rfl, hC⟩
  exact .inr ⟨rfl, d, e, k, rfl, hC⟩
def gx_greatest_order : FX := gx_bounds
theorem rdx_greatest_order {a b : FA} : ∀ ds C, ds.length = 3 → gx_greatest_order ds C → TX_greatest_order a b gx_bounds E0 (EX C) (startA N_greatest_order ds) := by
  rintro ds C - ⟨d, e, k, rfl, hC⟩
  exact .inr ⟨rfl, d, e, k, rfl, hC⟩
def gx_may_stand : FX := fun ds C => ∃ a d e k, ds = [a, d, e, k] ∧ ClX k C
theorem rdx_may_stand {a b c f : FA} : ∀ ds C, ds.length = 4 → gx_may_stand ds C → TX_may_stand a b c f gx_least_order gx_greatest_order E0 (EX C) (startA N_may_stand ds) := by
  rintro ds C - ⟨a, d, e, k, rfl, hC⟩
  exact .inr ⟨rfl, d, e, k, rfl, hC⟩
def gx_sure_posts : FX := gx_may_stand
theorem rdx_sure_posts {a : FA} : ∀ ds C, ds.length = 4 → gx_sure_posts ds C → TX_sure_posts a gx_may_stand E0 (EX C) (startA N_sure_posts ds) := by
  rintro ds C - ⟨a, d, e, k, rfl, hC⟩
  exact .inr ⟨rfl, a, d, e, k, rfl, hC⟩
end Pl
namespace Pl
open PySem PySem.Spec PyProof.Rows L2
theorem map_erase {α β : Type} (f : α → β) : ∀ (l : List α) (k : Nat), (l.map f).eraseIdx k = (l.eraseIdx k).map f
  | [], _ => rfl
  | _ :: _, 0 => rfl
  | x :: l, k + 1 => by
    show f x :: (l.map f).eraseIdx k = f x :: (l.eraseIdx k).map f
    rw [map_erase f l k]
theorem cT_erase : ∀ (l : List Bool) (k : Nat) (b : Bool), l[k]? = some b → cT (l.eraseIdx k) + cT [b] = cT l ∧ cF (l.eraseIdx k) + cF [b] = cF l ∧ (l.eraseIdx k).length + 1 = l.length
  | [], _, _, h => by simp at h
  | x :: l, 0, b, h => by
    have e : x = b := by simpa using h
    subst e
    show cT l + cT [x] = cT (x :: l) ∧ cF l + cF [x] = cF (x :: l) ∧ l.length + 1 = (x :: l).length
    cases x with
    | true => exact ⟨rfl, rfl, rfl⟩
    | false => exact ⟨rfl, rfl, rfl⟩
  | x :: l, k + 1, b, h => by
    obtain ⟨h1, h2, h3⟩ := cT_erase l k b (by simpa using h)
    show cT (x :: l.eraseIdx k) + cT [b] = cT (x :: l) ∧ cF (x :: l.eraseIdx k) + cF [b] = cF (x :: l) ∧ (x :: l.eraseIdx k).length + 1 = (x :: l).length
    cases x with
    | true =>
      refine ⟨?_, h2, by simp; omega⟩
      show cT (l.eraseIdx k) + 1 + cT [b] = cT l + 1; omega
    | false =>
      refine ⟨h1, ?_, by simp; omega⟩
      show cF (l.eraseIdx k) + 1 + cF [b] = cF l + 1; omega
theorem rep_sg (n : Nat) (b : Bool) : (List.replicate n [sgD b]).flatten = (List.replicate n b).map sgD := by
  induction n with
  | zero => rfl
  | succ n ih => rw [List.replicate_succ, List.flatten_cons, ih]; rfl
theorem cT_repF : ∀ n : Nat, cT (List.replicate n false) = 0
  | 0 => rfl
  | n + 1 => cT_repF n
theorem cF_repF : ∀ n : Nat, cF (List.replicate n false) = n
  | 0 => rfl
  | n + 1 => by show cF (List.replicate n false) + 1 = n + 1; rw [cF_repF n]
def g__law_order : FB := fun xs ds C => ∃ n c f, n ≤ 10000000000 ∧ Bx n xs ∧ ds = [.int ((c : Nat) : Int), .int ((f : Nat) : Int)] ∧ c ≤ 100 ∧ f ≤ 100 ∧ ∀ o zs, cT o = c → cF o = f → Bx (n + 500) zs → C (.val (.str (txt o))) zs
theorem rd__law_order : ∀ a xs ds C, ds.length + 1 = 3 → g__law_order xs ds C → T__law_order (g_take 100000000000000) { nx := fun ρ => ∃ ys, ρ[0]? = some (some (.own a ys)) ∧ C (.val .non) ys, rt := fun c ρ => ∃ ys, ρ[0]? = some (some (.own a ys)) ∧ C c ys } (startB N__law_order a xs ds) := by
  rintro a xs ds C - ⟨n, c, f, hn, hB, rfl, hc, hf, hC⟩
  have h1 : (1 : Nat) ≤ sizeLine := by decide
  have k1 : (1 : Nat) ≤ 1000 := by decide
  have el : (List.replicate ((c : Int)).toNat [D.str "c"]).flatten ++ (List.replicate ((f : Int)).toNat [D.str "f"]).flatten = (List.replicate c true ++ List.replicate f false).map sgD := by
    rw [show D.str "c" = sgD true by unfold sgD sgS; rw [lit_c]; rfl, show D.str "f" = sgD false by unfold sgD sgS; rw [lit_f]; rfl, rep_sg, rep_sg, List.map_append]
    rfl
  have main : ∀ (b : Addr), forW (hName 5) (pSet 4 (pVal (pOp fAdd (pVar 4) (pPop 3 (pFrz (pCallB 0 2 (g_take 100000000000000) (pCons (pLenO 3) pNil))))))) { nx := fun ρ => pRet (pMove 4) { nx := fun ρ => ∃ ys, ρ[0]? = some (some (.own a ys)) ∧ C (.val .non) ys, rt := fun c ρ => ∃ ys, ρ[0]? = some (some (.own a ys)) ∧ C c ys } ρ, rt := fun c ρ => ∃ ys, ρ[0]? = some (some (.own a ys)) ∧ C c ys } (rangeD 0 (c + f)) [some (.own a xs), some (.val (.int (c : Int))), some (.val (.int (f : Int))), some (.own b ((List.replicate c true ++ List.replicate f false).map sgD)), some (.val (.str "")), none] := by
    intro b
    refine for_inv (fun ds ρ => ∃ (ls done : List Bool) (zs : List D) (w : Option Cell), ds.length = ls.length ∧ cT done + cT ls = c ∧ cF done + cF ls = f ∧ Bx (n + 2 * done.length) zs ∧ done.length + ls.length = c + f ∧ ρ = [some (.own a zs), some (.val (.int (c : Int))), some (.val (.int (f : Int))), some (.own b (ls.map sgD)), some (.val (.str (txt done))), w]) (fun x r ρ K hK hI => ?_) (fun ρ hI => ?_) _ _ ⟨List.replicate c true ++ List.replicate f false, [], xs, none, by simp [rangeD], ?_, ?_, hB, by simp, by rw [show txt [] = ("" : Str) from lit_e.symm]⟩
    · obtain ⟨ls, done, zs, w, e1, e2, e3, hz, e4, rfl⟩ := hI
      have e1 : r.length + 1 = ls.length := e1
      refine ⟨zs, rfl, rfl, _, ((ls.map sgD).length : Nat), by omega, hz, rfl, by rw [List.length_map]; omega, by rw [List.length_map]; omega, fun v zs1 v1 v2 hz1 => ?_⟩
      rw [List.length_map] at v2
      obtain ⟨k, rfl⟩ := Int.eq_ofNat_of_zero_le v1
      have hk : k < ls.length := by omega
      have hg : ls[k]? = some ls[k] := List.getElem?_eq_getElem hk
      obtain ⟨q1, q2, q3⟩ := cT_erase ls k _ hg
      refine ⟨ls.map sgD, k, sgD ls[k], rfl, rfl, by omega, by rw [List.getElem?_map, hg]; rfl, ?_, ?_⟩
      · refine sl1000 ?_
        rw [txt_len]
        show done.length + 1 ≤ 1000; omega
      · refine hK _ ⟨ls.eraseIdx k, done ++ [ls[k]], zs1, some (.val x), by omega, ?_, ?_, hz1.mono (by simp; omega), by simp; omega, ?_⟩
        · rw [cT_append]; omega
        · rw [cF_append]; omega
        · rw [← map_erase, ← txt_append]; rfl
    · obtain ⟨ls, done, zs, w, e1, e2, e3, hz, e4, rfl⟩ := hI
      have e1 : 0 = ls.length := e1
      have : ls = [] := List.length_eq_zero_iff.mp e1.symm
      subst this
      exact ⟨zs, rfl, hC done zs (by simpa [cT] using e2) (by simpa [cF] using e3) (hz.mono (by simp at e4; omega))⟩
    · rw [cT_append, cT_rep, cT_repF]; simp [cT]
    · rw [cF_append, cF_rep, cF_repF]; simp [cF]
  refine ⟨h1, by show (0 : Int) ≤ (c : Int); omega, by show (c : Int) ≤ 1000; omega, k1, h1, by show (0 : Int) ≤ (f : Int); omega, by show (f : Int) ≤ 1000; omega, k1, ?_, fun b => ?_⟩
  · have := congrArg List.length el
    rw [List.length_append] at this
    refine sl1000 ?_
    have e : ((List.replicate c true ++ List.replicate f false).map sgD).length = c + f := by simp
    rw [e] at this
    omega
  · refine ⟨by show (-(2 ^ 62) : Int) ≤ (c : Int) + (f : Int); omega, by show (c : Int) + (f : Int) < 2 ^ 62; omega, ?_⟩
    have hcf : ((c : Int) + (f : Int)).toNat = c + f := by omega
    have := main b
    rw [← el, ← hcf] at this
    exact this
end Pl
namespace Pl
open PySem PySem.Spec PyProof.Rows L2
def posL (c : Bool) (k : Nat) : List Bool → List Nat
  | [] => []
  | b :: o => if (b == c) = true then k :: posL c (k + 1) o else posL c (k + 1) o
theorem posL_len (c : Bool) : ∀ (o : List Bool) (k : Nat), (posL c k o).length = if c = true then cT o else cF o
  | [], _ => by cases c <;> rfl
  | b :: o, k => by
    have := posL_len c o (k + 1)
    cases b <;> cases c <;> simp [posL, cT, cF] at this ⊢ <;> omega
theorem posL_ge (c : Bool) : ∀ (o : List Bool) (k x : Nat), x ∈ posL c k o → k ≤ x
  | [], _, _, h => by simp [posL] at h
  | b :: o, k, x, h => by
    unfold posL at h
    split at h
    · rcases List.mem_cons.mp h with e | h
      · omega
      · have := posL_ge c o (k + 1) x h; omega
    · have := posL_ge c o (k + 1) x h; omega
theorem pos_ahead : ∀ (o : List Bool) (k j c f x y : Nat), (posL true k o)[c]? = some x → (posL false k o)[f]? = some y → ∃ z, (aheadL j o)[f]? = some z ∧ (x < y ↔ c + j < z)
  | [], _, _, c, _, _, _, h, _ => by simp [posL] at h
  | true :: o, k, j, 0, f, x, y, h1, h2 => by
    have h1 : k = x := by simpa [posL] using h1
    have h2 : (posL false (k + 1) o)[f]? = some y := h2
    have hy := posL_ge false o (k + 1) y (List.mem_of_getElem? h2)
    have hf : f < (aheadL (j + 1) o).length := by
      have := posL_len false o (k + 1)
      rw [aheadL_len]
      have hl : f < (posL false (k + 1) o).length := by
        rcases Nat.lt_or_ge f (posL false (k + 1) o).length with q | q
        · exact q
        · rw [List.getElem?_eq_none q] at h2; cases h2
      rw [this] at hl
      simpa using hl
    refine ⟨(aheadL (j + 1) o)[f], List.getElem?_eq_getElem hf, ?_⟩
    have := (aheadL_le o (j + 1) _ (List.getElem_mem hf)).1
    omega
  | true :: o, k, j, c + 1, f, x, y, h1, h2 => by
    have h1 : (posL true (k + 1) o)[c]? = some x := by simpa [posL] using h1
    have h2 : (posL false (k + 1) o)[f]? = some y := h2
    obtain ⟨z, hz, e⟩ := pos_ahead o (k + 1) (j + 1) c f x y h1 h2
    exact ⟨z, hz, by rw [e]; omega⟩
  | false :: o, k, j, c, 0, x, y, h1, h2 => by
    have h1 : (posL true (k + 1) o)[c]? = some x := h1
    have h2 : k = y := by simpa [posL] using h2
    have hx := posL_ge true o (k + 1) x (List.mem_of_getElem? h1)
    exact ⟨j, rfl, by omega⟩
  | false :: o, k, j, c, f + 1, x, y, h1, h2 => by
    have h1 : (posL true (k + 1) o)[c]? = some x := h1
    have h2 : (posL false (k + 1) o)[f]? = some y := by simpa [posL] using h2
    obtain ⟨z, hz, e⟩ := pos_ahead o (k + 1) j c f x y h1 h2
    exact ⟨z, hz, e⟩
theorem lcW_pos {s : Str} {c : Bool} (hs : ∀ b, (sgD b).eqv (.str s) = (b == c)) (hsh : (D.str s).sh) {Q : List D → Ro → Prop} {d0 d1 d2 d3 d4 w7 w8 : Option Cell} (o : List Bool) (hl : o.length ≤ 900) (hQ : Q (dN (posL c 0 o)) [d0, d1, d2, d3, d4, none, none, w7, w8]) :
    lcW [5, 6] (hTup 2 (hCons (hName 5) (hCons (hName 6) hNil))) (pTest (pOp fEq (pVar 6) (pC (.str s)))) (pVar 5) Q (enumD 0 (signsD (txt o))) [] [d0, d1, d2, d3, d4, none, none, w7, w8] := by
  rw [signs_txt]
  refine lcW_inv (fun ds acc ρ => ∃ (n : Nat) (rest : List Bool) (got : List Nat), ds = enumD n (rest.map sgD) ∧ acc = dN got ∧ ρ = [d0, d1, d2, d3, d4, none, none, w7, w8] ∧ got ++ posL c n rest = posL c 0 o ∧ got.length ≤ n ∧ n + rest.length = o.length) (fun v r acc ρ K hK hI => ?_) (fun acc ρ hI => ?_) _ _ _ ⟨0, o, [], rfl, rfl, rfl, rfl, Nat.le_refl _, by simp⟩
  · obtain ⟨n, rest, got, h1, rfl, rfl, h2, h3, h4⟩ := hI
    cases rest with
    | nil => cases h1
    | cons b rest =>
      cases h1
      have h4 : n + (rest.length + 1) = o.length := h4
      have es : posL c n (b :: rest) = if (b == c) = true then n :: posL c (n + 1) rest else posL c (n + 1) rest := rfl
      refine ⟨rfl, rfl, sh_sg b, hsh, ifB (fun q => ?_) (fun q => ?_)⟩
      · rw [hs] at q
        rw [es, if_pos q] at h2
        exact ⟨small1000 (by simp [dN]; omega), hK _ _ ⟨n + 1, rest, got ++ [n], rfl, by unfold dN; rw [List.map_append]; rfl, rfl, by rw [List.append_assoc]; exact h2, by simp; omega, by omega⟩⟩
      · rw [hs] at q
        rw [es, if_neg (by rw [q]; simp)] at h2
        exact hK _ _ ⟨n + 1, rest, got, rfl, rfl, rfl, h2, by omega, by omega⟩
  · obtain ⟨n, rest, got, h1, rfl, rfl, h2, h3, h4⟩ := hI
    cases rest with
    | cons b rest => cases h1
    | nil =>
      rw [show posL c n [] = [] from rfl, List.append_nil] at h2
      rw [h2]
      exact hQ
theorem atI_dN {l : List Nat} {j x : Nat} (h : l[j]? = some x) : atI (dN l) ((j : Nat) : Int) = some (.int (x : Int)) := by
  refine atI_nat ?_
  unfold dN; rw [List.getElem?_map, h]; rfl
def g__law_has : FA := fun ds C => ∃ o w, ds = [.str (txt o), wordD w] ∧ w.2.1 < cT o ∧ w.2.2 < cF o ∧ o.length ≤ 900 ∧ C (.val (.bl (hasW (aheadL 0 o) w)))
theorem rd__law_has : ∀ ds C, ds.length = 2 → g__law_has ds C → T__law_has { nx := fun _ => C (.val .non), rt := fun c _ => C c } (startA N__law_has ds) := by
  rintro ds C - ⟨o, w, rfl, hc, hf, hl, hC⟩
  have l1 := posL_len true o 0
  have l2 := posL_len false o 0
  have g1 : (posL true 0 o)[w.2.1]? = some ((posL true 0 o)[w.2.1]'(by rw [l1]; exact hc)) := List.getElem?_eq_getElem _
  have g2 : (posL false 0 o)[w.2.2]? = some ((posL false 0 o)[w.2.2]'(by rw [l2]; exact hf)) := List.getElem?_eq_getElem _
  obtain ⟨z, hz, e⟩ := pos_ahead o 0 0 _ _ _ _ g1 g2
  refine ⟨rfl, rfl, ?_⟩
  refine lcW_pos (c := true) (fun b => by rw [eqv_sgc]; cases b <;> rfl) sh_c o hl ?_
  refine lcW_pos (c := false) (fun b => by rw [eqv_sgf]; cases b <;> rfl) sh_f o hl ?_
  refine ⟨_, atI_dN g1, _, atI_dN g2, sh_word' w.1, sh_cut, sh_bl _, sh_bl _, ?_⟩
  have eh : hasW (aheadL 0 o) w = ((D.bl (decide (((posL true 0 o)[w.2.1]'(by rw [l1]; exact hc) : Nat) < (((posL false 0 o)[w.2.2]'(by rw [l2]; exact hf) : Nat) : Int)))).eqv (.bl ((D.str (wordS w.1)).eqv (.str (wordS true))))) := by
    rw [eqv_bl, eqv_words']
    unfold hasW
    rw [List.getD_eq_getElem?_getD, hz]
    have : decide ((((posL true 0 o)[w.2.1]'(by rw [l1]; exact hc) : Nat) : Int) < (((posL false 0 o)[w.2.2]'(by rw [l2]; exact hf) : Nat) : Int)) = decide (w.2.1 < z) := decide_eq_decide.mpr (by omega)
    rw [this]
    show (w.1 == decide (w.2.1 < z)) = _
    cases w.1 <;> cases decide (w.2.1 < z) <;> rfl
  rw [eh] at hC
  exact hC
theorem cnt_T : ∀ o : List Bool, PyProof.Rows.cnt 99 (o.map sg) = ((cT o : Nat) : Int)
  | [] => rfl
  | true :: o => by
    show PyProof.Rows.cnt 99 (99 :: o.map sg) = ((cT o + 1 : Nat) : Int)
    rw [PyProof.Rows.cnt_cons, cnt_T o, if_pos rfl]; omega
  | false :: o => by
    show PyProof.Rows.cnt 99 (102 :: o.map sg) = ((cT o : Nat) : Int)
    rw [PyProof.Rows.cnt_cons, cnt_T o, if_neg (by decide)]; omega
theorem cnt_F : ∀ o : List Bool, PyProof.Rows.cnt 102 (o.map sg) = ((cF o : Nat) : Int)
  | [] => rfl
  | true :: o => by
    show PyProof.Rows.cnt 102 (99 :: o.map sg) = ((cF o : Nat) : Int)
    rw [PyProof.Rows.cnt_cons, cnt_F o, if_neg (by decide)]; omega
  | false :: o => by
    show PyProof.Rows.cnt 102 (102 :: o.map sg) = ((cF o + 1 : Nat) : Int)
    rw [PyProof.Rows.cnt_cons, cnt_F o, if_pos rfl]; omega
theorem count_c (o : List Bool) : Txt.count (txt o) "c" = ((cT o : Nat) : Int) := by rw [lit_c, count_is]; exact cnt_T o
theorem count_f (o : List Bool) : Txt.count (txt o) "f" = ((cF o : Nat) : Int) := by rw [show ("f" : Str) = ⟨#[102]⟩ by decide +kernel, count_is]; exact cnt_F o
end Pl
namespace Pl
open PySem PySem.Spec PyProof.Rows L2
def g__law_words : FB := fun xs ds C => ∃ n o size, n ≤ 1000000000 ∧ Bx n xs ∧ ds = [.str (txt o), .int ((size : Nat) : Int)] ∧ size ≤ 100 ∧ o.length ≤ 900 ∧ ∀ p ws zs, ws.length ≤ size → InB (cT o) (cF o) ws → Bx (n + 2000) zs → C (.own p (wordsD ws)) zs
theorem rd__law_words : ∀ a xs ds C, ds.length + 1 = 3 → g__law_words xs ds C → T__law_words (g_take 100000000000000) g__law_has { nx := fun ρ => ∃ ys, ρ[0]? = some (some (.own a ys)) ∧ C (.val .non) ys, rt := fun c ρ => ∃ ys, ρ[0]? = some (some (.own a ys)) ∧ C c ys } (startB N__law_words a xs ds) := by
  rintro a xs ds C - ⟨n, o, size, hn, hB, rfl, hs, hl, hC⟩
  have h3 : (3 : Nat) ≤ sizeLine := by decide
  have hTF := cT_cF o
  have main : ∀ (b : Addr) (m : Nat) (zs : List D) (t : Bool), m ≤ size → (0 < m → 0 < cT o ∧ 0 < cF o) → Bx (n + 4) zs → forW (hName 7) (pSeq (pSet 8 (pVal (pTup (pCons (pC (.str "cut")) (pCons (pFrz (pCallB 0 2 (g_take 100000000000000) (pCons (pVar 3) pNil))) (pCons (pFrz (pCallB 0 2 (g_take 100000000000000) (pCons (pVar 4) pNil))) pNil))))))
    (pSeq (pIfS (pOr (pNot (pTest (pFrz (pCallA 2 g__law_has (pCons (pVar 1) (pCons (pVar 8) pNil)))))) (pAnd (pTest (pVar 6)) (pTest (pOp fEq (pFrz (pCallB 0 2 (g_take 100000000000000) (pCons (pC (.int 4)) pNil))) (pC (.int 0))))))
    (pSet 8 (pVal (pTup (pCons (pC (.str "fill")) (pCons (pIxO 8 (pC (.int 1))) (pCons (pIxO 8 (pC (.int 2))) pNil))))))
    pNext)
    (pAppend 5 (pVar 8)))) { nx := fun ρ => pRet (pMove 5) { nx := fun ρ => ∃ ys, ρ[0]? = some (some (.own a ys)) ∧ C (.val .non) ys, rt := fun c ρ => ∃ ys, ρ[0]? = some (some (.own a ys)) ∧ C c ys } ρ, rt := fun c ρ => ∃ ys, ρ[0]? = some (some (.own a ys)) ∧ C c ys } (rangeD 0 m) [some (.own a zs), some (.val (.str (txt o))), some (.val (.int (size : Int))), some (.val (.int ((cT o : Nat) : Int))), some (.val (.int ((cF o : Nat) : Int))), some (.own b []), some (.val (.bl t)), none, none] := by
    intro b m zs t hm hpos hz
    refine for_inv (fun ds ρ => ∃ (ws : List Wo) (zs : List D) (w7 w8 : Option Cell), ds.length + ws.length = m ∧ InB (cT o) (cF o) ws ∧ Bx (n + 4 + 6 * ws.length) zs ∧ ρ = [some (.own a zs), some (.val (.str (txt o))), some (.val (.int (size : Int))), some (.val (.int ((cT o : Nat) : Int))), some (.val (.int ((cF o : Nat) : Int))), some (.own b (wordsD ws)), some (.val (.bl t)), w7, w8]) (fun x r ρ K hK hI => ?_) (fun ρ hI => ?_) _ _ ⟨[], zs, none, none, by simp [rangeD], fun w h => by simp at h, hz, rfl⟩
    · obtain ⟨ws, zs, w7, w8, e1, hi, hz, rfl⟩ := hI
      have e1 : r.length + 1 + ws.length = m := e1
      obtain ⟨p1, p2⟩ := hpos (by omega)
      refine ⟨zs, rfl, rfl, _, ((cT o : Nat) : Int), by omega, hz, rfl, by omega, by omega, fun u zs1 u1 u2 hz1 => ?_⟩
      refine ⟨zs1, rfl, rfl, _, ((cF o : Nat) : Int), by omega, hz1, rfl, by omega, by omega, fun v zs2 v1 v2 hz2 => ⟨h3, ?_⟩⟩
      obtain ⟨c, rfl⟩ := Int.eq_ofNat_of_zero_le u1
      obtain ⟨f, rfl⟩ := Int.eq_ofNat_of_zero_le v1
      have hzl : (wordsD ws).length < sizeLine := small1000 (by rw [wordsD_len]; omega)
      have fin : ∀ (k : Bool) (zs3 : List D), Bx (n + 4 + 6 * ws.length + 6) zs3 → K [some (.own a zs3), some (.val (.str (txt o))), some (.val (.int (size : Int))), some (.val (.int ((cT o : Nat) : Int))), some (.val (.int ((cF o : Nat) : Int))), some (.own b (wordsD ws ++ [wordD (k, c, f)])), some (.val (.bl t)), some (.val x), some (.val (wordD (k, c, f)))] := by
        intro k zs3 hz3
        refine hK _ ⟨ws ++ [(k, c, f)], zs3, some (.val x), some (.val (wordD (k, c, f))), by simp; omega, fun w hw => ?_, hz3.mono (by simp; omega), by unfold wordsD; rw [List.map_append]; rfl⟩
        rcases List.mem_append.mp hw with hw | hw
        · exact hi w hw
        · rw [List.mem_singleton.mp hw]; exact ⟨by show c < cT o; omega, by show f < cF o; omega⟩
      refine ⟨rfl, o, (true, c, f), rfl, by show c < cT o; omega, by show f < cF o; omega, hl, ?_⟩
      have change : ∀ zs3, Bx (n + 4 + 6 * ws.length + 6) zs3 → pSet 8 (pVal (pTup (pCons (pC (.str "fill")) (pCons (pIxO 8 (pC (.int 1))) (pCons (pIxO 8 (pC (.int 2))) pNil))))) { nx := fun ρ => pAppend 5 (pVar 8) { nx := K, ct := K, rt := fun c ρ => ∃ ys, ρ[0]? = some (some (.own a ys)) ∧ C c ys, bk := fun ρ => pRet (pMove 5) { nx := fun ρ => ∃ ys, ρ[0]? = some (some (.own a ys)) ∧ C (.val .non) ys, rt := fun c ρ => ∃ ys, ρ[0]? = some (some (.own a ys)) ∧ C c ys } ρ } ρ, rt := fun c ρ => ∃ ys, ρ[0]? = some (some (.own a ys)) ∧ C c ys, bk := fun ρ => pRet (pMove 5) { nx := fun ρ => ∃ ys, ρ[0]? = some (some (.own a ys)) ∧ C (.val .non) ys, rt := fun c ρ => ∃ ys, ρ[0]? = some (some (.own a ys)) ∧ C c ys } ρ, ct := K } [some (.own a zs3), some (.val (.str (txt o))), some (.val (.int (size : Int))), some (.val (.int ((cT o : Nat) : Int))), some (.val (.int ((cF o : Nat) : Int))), some (.own b (wordsD ws)), some (.val (.bl t)), some (.val x), some (.val (wordD (true, c, f)))] := by
        intro zs3 hz3
        exact ⟨_, rfl, _, rfl, h3, _, rfl, hzl, fin false zs3 hz3⟩
      have keep : ∀ zs3, Bx (n + 4 + 6 * ws.length + 6) zs3 → pAppend 5 (pVar 8) { nx := K, ct := K, rt := fun c ρ => ∃ ys, ρ[0]? = some (some (.own a ys)) ∧ C c ys, bk := fun ρ => pRet (pMove 5) { nx := fun ρ => ∃ ys, ρ[0]? = some (some (.own a ys)) ∧ C (.val .non) ys, rt := fun c ρ => ∃ ys, ρ[0]? = some (some (.own a ys)) ∧ C c ys } ρ } [some (.own a zs3), some (.val (.str (txt o))), some (.val (.int (size : Int))), some (.val (.int ((cT o : Nat) : Int))), some (.val (.int ((cF o : Nat) : Int))), some (.own b (wordsD ws)), some (.val (.bl t)), some (.val x), some (.val (wordD (true, c, f)))] := by
        intro zs3 hz3
        exact ⟨_, rfl, hzl, fin true zs3 hz3⟩
      refine ifB (fun q => ?_) (fun q => ?_)
      · exact change zs2 (hz2.mono (by omega))
      · cases t with
        | false => exact keep zs2 (hz2.mono (by omega))
        | true =>
          refine ⟨zs2, rfl, rfl, _, 4, by omega, hz2, rfl, by decide, by decide, fun y zs3 _ _ hz3 => ⟨sh_int _, sh_int _, ifB (fun q => ?_) (fun q => ?_)⟩⟩
          · exact change zs3 (hz3.mono (by omega))
          · exact keep zs3 (hz3.mono (by omega))
    · obtain ⟨ws, zs, w7, w8, e1, hi, hz, rfl⟩ := hI
      have e1 : 0 + ws.length = m := e1
      exact ⟨zs, rfl, hC b ws zs (by omega) hi (hz.mono (by omega))⟩
  show pSeq _ _ _ [some (.own a xs), some (.val (.str (txt o))), some (.val (.int (size : Int))), none, none, none, none, none, none]
  have start : ∀ u v : Int, u = ((cT o : Nat) : Int) → v = ((cF o : Nat) : Int) → pSeq (pParC 5 6 (pConsC (pLstO pNil) (pConsC (pVal (pOp fEq (pFrz (pCallB 0 2 (g_take 100000000000000) (pCons (pC (.int 3)) pNil))) (pC (.int 0)))) pNilC))) (pSeq (pFor (jRng1 (pCons (pOp fMulI (pFrz (pCallB 0 2 (g_take 100000000000000) (pCons (pOp fAdd (pVar 2) (pC (.int 1))) pNil))) (pCB fInt1 (pCons (pAndV (pOp fGt (pVar 3) (pC (.int 0))) (pOp fGt (pVar 4) (pC (.int 0)))) pNil))) pNil)) (hName 7)
    (pSeq (pSet 8 (pVal (pTup (pCons (pC (.str "cut")) (pCons (pFrz (pCallB 0 2 (g_take 100000000000000) (pCons (pVar 3) pNil))) (pCons (pFrz (pCallB 0 2 (g_take 100000000000000) (pCons (pVar 4) pNil))) pNil))))))
    (pSeq (pIfS (pOr (pNot (pTest (pFrz (pCallA 2 g__law_has (pCons (pVar 1) (pCons (pVar 8) pNil)))))) (pAnd (pTest (pVar 6)) (pTest (pOp fEq (pFrz (pCallB 0 2 (g_take 100000000000000) (pCons (pC (.int 4)) pNil))) (pC (.int 0))))))
    (pSet 8 (pVal (pTup (pCons (pC (.str "fill")) (pCons (pIxO 8 (pC (.int 1))) (pCons (pIxO 8 (pC (.int 2))) pNil))))))
    pNext)
    (pAppend 5 (pVar 8))))) (pRet (pMove 5))) { nx := fun ρ => ∃ ys, ρ[0]? = some (some (.own a ys)) ∧ C (.val .non) ys, rt := fun c ρ => ∃ ys, ρ[0]? = some (some (.own a ys)) ∧ C c ys } [some (.own a xs), some (.val (.str (txt o))), some (.val (.int (size : Int))), some (.val (.int u)), some (.val (.int v)), none, none, none, none] := by
    intro u v hu hv
    subst hu hv
    refine ⟨by show (0 : Nat) ≤ sizeLine; decide, fun b => ?_⟩
    refine ⟨xs, rfl, rfl, n, 3, by omega, hB, rfl, by decide, by decide, fun q zs1 _ _ hz1 => ⟨sh_int _, sh_int _, ?_⟩⟩
    refine ⟨zs1, rfl, rfl, _, ((size : Nat) : Int) + 1, by omega, hz1, rfl, by omega, by omega, fun k zs2 k1 k2 hz2 => ?_⟩
    have hm0 : ∀ e : Int, (e = 0 ∨ e = 1) → CMul k e := fun e he => .inl ⟨by show (-(2 ^ 64) : Int) < k; omega, by show k < (2 ^ 64 : Int); omega⟩
    refine ifB (fun h => ?_) (fun h => ?_)
    · have p1 := dT h
      cases e : decide ((0 : Int) < ((cF o : Nat) : Int)) with
      | true =>
        have p2 := dT e
        have hv : (if decide ((0 : Int) < ((cF o : Nat) : Int)) = true then (1 : Int) else 0) = 1 := by rw [e]; rfl
        refine ⟨hm0 _ (.inr hv), ?_⟩
        show _ ∧ _ ∧ _
        rw [hv, Int.mul_one]
        refine ⟨by omega, by omega, main b k.toNat zs2 _ (by omega) (fun _ => ⟨by omega, by omega⟩) hz2⟩
      | false =>
        have hv : (if decide ((0 : Int) < ((cF o : Nat) : Int)) = true then (1 : Int) else 0) = 0 := by rw [e]; rfl
        refine ⟨hm0 _ (.inl hv), ?_⟩
        show _ ∧ _ ∧ _
        rw [hv, Int.mul_zero]
        exact ⟨by decide, by decide, main b 0 zs2 _ (by omega) (fun z => by omega) hz2⟩
    · refine ⟨hm0 _ (.inl rfl), ?_⟩
      show _ ∧ _ ∧ _
      rw [show (if false = true then (1 : Int) else 0) = 0 from rfl, Int.mul_zero]
      exact ⟨by decide, by decide, main b 0 zs2 _ (by omega) (fun z => by omega) hz2⟩
  exact start _ _ (count_c o) (count_f o)
end Pl
namespace Pl
open PySem PySem.Spec PyProof.Rows L2
def g__law_almanac : FA := g_almanac_of
theorem pop0 {l : List Int} {k : Nat} (h : k < l.length) : (dI (l.drop k))[0]? = some (.int (l.getD k 0)) ∧ (dI (l.drop k)).eraseIdx 0 = dI (l.drop (k + 1)) := by
  have e : l.drop k = l.getD k 0 :: l.drop (k + 1) := by
    rw [List.drop_eq_getElem_cons h, List.getD_eq_getElem?_getD, List.getElem?_eq_getElem h]; rfl
  rw [e]
  exact ⟨rfl, rfl⟩
theorem rd__law_almanac : ∀ ds C, ds.length = 3 → g__law_almanac ds C → T__law_almanac { nx := fun _ => C (.val .non), rt := fun c _ => C c } (startA N__law_almanac ds) := by
  rintro ds C - ⟨d, cuts, e, fills, o, rfl, hd, he, hc, hf, hl, hC⟩
  have h2 : (2 : Nat) ≤ sizeLine := by decide
  have main : ∀ p q b : Addr, forW (hName 6) (pAppend 5 (pIf (pTest (pOp fEq (pVar 6) (pC (.str "c")))) (pTup (pCons (pC (.str "cut")) (pCons (pPop 3 (pC (.int 0))) pNil))) (pTup (pCons (pC (.str "fill")) (pCons (pPop 4 (pC (.int 0))) pNil))))) { nx := fun ρ => pRet (pMove 5) { nx := fun _ => C (.val .non), rt := fun c _ => C c } ρ, rt := fun c _ => C c } (signsD (txt o)) [some (.val d), some (.val e), some (.val (.str (txt o))), some (.own p (dI cuts)), some (.own q (dI fills)), some (.own b []), none] := by
    intro p q b
    rw [signs_txt]
    refine for_inv (fun ds ρ => ∃ (done rest : List Bool) (w : Option Cell), ds = rest.map sgD ∧ o = done ++ rest ∧ ρ = [some (.val d), some (.val e), some (.val (.str (txt o))), some (.own p (dI (cuts.drop (cT done)))), some (.own q (dI (fills.drop (cF done)))), some (.own b (windsD (almL cuts fills 0 0 done))), w]) (fun x r ρ K hK hI => ?_) (fun ρ hI => ?_) _ _ ⟨[], o, none, rfl, rfl, rfl⟩
    · obtain ⟨done, rest, w, e1, e2, rfl⟩ := hI
      cases rest with
      | nil => cases e1
      | cons s rest =>
        cases e1
        have hT : cT done + cT (s :: rest) = cT o := by rw [e2, cT_append]
        have hF : cF done + cF (s :: rest) = cF o := by rw [e2, cF_append]
        have hlen : done.length + (rest.length + 1) = o.length := by rw [e2]; simp
        have hz : (windsD (almL cuts fills 0 0 done)).length < sizeLine := small1000 (by rw [windsD_len, almL_len]; omega)
        refine ⟨sh_sg s, sh_c, ?_⟩
        cases s with
        | true =>
          have hT : cT done + (cT rest + 1) = cT o := hT
          obtain ⟨g1, g2⟩ := pop0 (l := cuts) (k := cT done) (by omega)
          refine ifT (eqv_sgc true) ⟨_, 0, _, rfl, rfl, by omega, g1, h2, _, rfl, hz, ?_⟩
          refine hK _ ⟨done ++ [true], rest, some (.val (sgD true)), rfl, by rw [e2]; simp, ?_⟩
          rw [almL_snocT, ← windsD_append, cT_append, cF_append, Nat.zero_add, g2]
          rfl
        | false =>
          have hF : cF done + (cF rest + 1) = cF o := hF
          obtain ⟨g1, g2⟩ := pop0 (l := fills) (k := cF done) (by omega)
          refine ifF (eqv_sgc false) ⟨_, 0, _, rfl, rfl, by omega, g1, h2, _, rfl, hz, ?_⟩
          refine hK _ ⟨done ++ [false], rest, some (.val (sgD false)), rfl, by rw [e2]; simp, ?_⟩
          rw [almL_snocF, ← windsD_append, cT_append, cF_append, Nat.zero_add, g2]
          rfl
    · obtain ⟨done, rest, w, e1, e2, rfl⟩ := hI
      cases rest with
      | cons s rest => cases e1
      | nil =>
        rw [List.append_nil] at e2
        subst e2
        exact hC b
  have h0 : (0 : Nat) ≤ sizeLine := Nat.zero_le _
  rcases hd with rfl | rfl <;> rcases he with rfl | rfl <;> exact fun p q => ⟨h0, fun b => main p q b⟩
def Pos0 (l : List Int) : Prop := ∀ x ∈ l, 0 ≤ x
theorem Pos0.snoc {l : List Int} {x : Int} (h : Pos0 l) (hx : 0 ≤ x) : Pos0 (l ++ [x]) := fun y hy => by
  rcases List.mem_append.mp hy with hy | hy
  · exact h y hy
  · rw [List.mem_singleton.mp hy]; exact hx
theorem Pos0.take {l : List Int} (h : Pos0 l) (n : Nat) : Pos0 (l.take n) := fun y hy => h y (List.mem_of_mem_take hy)
theorem dI_snocB (l : List Int) (x : Int) : dI l ++ [.int x] = dI (l ++ [x]) := by unfold dI; rw [List.map_append]; rfl
theorem dI_take (l : List Int) (n : Nat) : (dI l).take n = dI (l.take n) := List.map_take.symm
def g__law_books : FB := fun xs ds C => ∃ n size, n ≤ 1000000000 ∧ Bx n xs ∧ ds = [.int ((size : Nat) : Int)] ∧ size ≤ 60 ∧ ∀ cuts fills zs, cuts.length ≤ size → fills.length ≤ size → Pos0 cuts → Pos0 fills → Bx (n + 5000) zs → C (.val (.tup [.lst (dI cuts), .lst (dI fills)])) zs
theorem books_one {a p q : Addr} {n size : Nat} (hn : n ≤ 1000001000) (hs : size ≤ 60) {way : Int} {w5 w6 : Option Cell} {zs : List D} (hB : Bx n zs) (first : Bool) {cs fs : List Int} (hf : (if first = true then cs else fs) = []) {P : PEnds}
    (hP : ∀ (l : List Int) (zs : List D) (w6 : Option Cell), l.length ≤ size → Pos0 l → Bx (n + 400) zs → P.nx [some (.own a zs), some (.val (.int (size : Int))), some (.own p (dI (if first = true then l else cs))), some (.own q (dI (if first = true then fs else l))), some (.val (.int way)), w5, w6, some (.val (.adr (if first = true then p else q)))]) :
    pFor (jRng1 (pCons (pFrz (pCallB 0 2 (g_take 100000000000000) (pCons (pOp fAdd (pVar 1) (pC (.int 1))) pNil))) pNil)) (hName 6) (pAppendA 7 [2, 3] (pIf (pTest (pOp fLt (pVar 4) (pC (.int 3)))) (pFrz (pCallB 0 1 g__law_slope pNil)) (pFrz (pCallB 0 2 (g_take 100000000000000) (pCons (pC (.int 3)) pNil))))) P [some (.own a zs), some (.val (.int (size : Int))), some (.own p (dI cs)), some (.own q (dI fs)), some (.val (.int way)), w5, w6, some (.val (.adr (if first = true then p else q)))] := by
  refine ⟨zs, rfl, rfl, n, ((size : Nat) : Int) + 1, by omega, hB, rfl, by omega, by omega, fun m zs1 m1 m2 hz1 => ⟨by omega, by omega, ?_⟩⟩
  refine for_inv (fun ds ρ => ∃ (l : List Int) (zs : List D) (w6 : Option Cell), (ds.length : Int) + l.length = m ∧ Pos0 l ∧ Bx (n + 2 + 4 * l.length) zs ∧ ρ = [some (.own a zs), some (.val (.int (size : Int))), some (.own p (dI (if first = true then l else cs))), some (.own q (dI (if first = true then fs else l))), some (.val (.int way)), w5, w6, some (.val (.adr (if first = true then p else q)))]) (fun x r ρ K hK hI => ?_) (fun ρ hI => ?_) _ _ ⟨[], zs1, w6, by simp [rangeD]; omega, fun x h => by simp at h, hz1, ?_⟩
  · obtain ⟨l, zs, w6, e1, hp, hz, rfl⟩ := hI
    have e1 : ((r.length + 1 : Nat) : Int) + l.length = m := e1
    have hzl : (dI l).length < sizeLine := small1000 (by rw [ints_len]; omega)
    have fin : ∀ (y : Int) (zs2 : List D), 0 ≤ y → Bx (n + 2 + 4 * l.length + 4) zs2 → ∃ (j : Nat) (xs1 : List D), j ∈ [2, 3] ∧ ([some (.own a zs2), some (.val (.int (size : Int))), some (.own p (dI (if first = true then l else cs))), some (.own q (dI (if first = true then fs else l))), some (.val (.int way)), w5, some (.val x), some (.val (.adr (if first = true then p else q)))] : Ro)[j]? = some (some (.own (if first = true then p else q) xs1)) ∧ xs1.length < sizeLine ∧ K (([some (.own a zs2), some (.val (.int (size : Int))), some (.own p (dI (if first = true then l else cs))), some (.own q (dI (if first = true then fs else l))), some (.val (.int way)), w5, some (.val x), some (.val (.adr (if first = true then p else q)))] : Ro).set j (some (.own (if first = true then p else q) (xs1 ++ [.int y])))) := by
      intro y zs2 hy hz2
      cases first with
      | true => exact ⟨2, dI l, by simp, rfl, hzl, hK _ ⟨l ++ [y], zs2, some (.val x), by simp; omega, hp.snoc hy, hz2.mono (by simp; omega), by rw [dI_snocB]; rfl⟩⟩
      | false => exact ⟨3, dI l, by simp, rfl, hzl, hK _ ⟨l ++ [y], zs2, some (.val x), by simp; omega, hp.snoc hy, hz2.mono (by simp; omega), by rw [dI_snocB]; rfl⟩⟩
    have there : ∃ j ∈ [2, 3], ∃ xs, ([some (.own a zs), some (.val (.int (size : Int))), some (.own p (dI (if first = true then l else cs))), some (.own q (dI (if first = true then fs else l))), some (.val (.int way)), w5, some (.val x), some (.val (.adr (if first = true then p else q)))] : Ro)[j]? = some (some (.own (if first = true then p else q) xs)) := by
      cases first with
      | true => exact ⟨2, by simp, _, rfl⟩
      | false => exact ⟨3, by simp, _, rfl⟩
    refine ⟨_, rfl, there, ifB (fun h => ?_) (fun h => ?_)⟩
    · exact ⟨zs, rfl, rfl, _, by omega, hz, rfl, fun s zs2 s0 _ hz2 => fin s zs2 s0 hz2⟩
    · exact ⟨zs, rfl, rfl, _, 3, by omega, hz, rfl, by decide, by decide, fun s zs2 s0 _ hz2 => fin s zs2 s0 (hz2.mono (by omega))⟩
  · obtain ⟨l, zs, w6, e1, hp, hz, rfl⟩ := hI
    have e1 : (0 : Int) + l.length = m := e1
    exact hP l zs w6 (by omega) hp (hz.mono (by omega))
  · cases first with
    | true => have hf : cs = [] := hf; subst hf; rfl
    | false => have hf : fs = [] := hf; subst hf; rfl
end Pl
namespace Pl
open PySem PySem.Spec PyProof.Rows L2
theorem rd__law_books : ∀ a xs ds C, ds.length + 1 = 2 → g__law_books xs ds C → T__law_books (g_take 100000000000000) g__law_slope { nx := fun ρ => ∃ ys, ρ[0]? = some (some (.own a ys)) ∧ C (.val .non) ys, rt := fun c ρ => ∃ ys, ρ[0]? = some (some (.own a ys)) ∧ C c ys } (startB N__law_books a xs ds) := by
  rintro a xs ds C - ⟨n, size, hn, hB, rfl, hs, hC⟩
  have h0 : (0 : Nat) ≤ sizeLine := Nat.zero_le _
  have h2 : (2 : Nat) ≤ sizeLine := by decide
  refine ⟨h0, fun p => ⟨h0, fun q => ?_⟩⟩
  refine ⟨xs, rfl, rfl, n, 4, by omega, hB, rfl, by decide, by decide, fun way zs1 a1 a2 hz1 => ⟨sh_int _, sh_int _, ifB (fun h => ?_) (fun h => ?_)⟩⟩
  · refine ⟨zs1, rfl, rfl, _, 60, by omega, hz1, rfl, by decide, by decide, fun sl zs2 b1 b2 hz2 => ?_⟩
    refine ⟨.inl ⟨by decide, by decide⟩, zs2, rfl, rfl, _, 2 * ((size : Nat) : Int) + 1, by omega, hz2, rfl, by omega, by omega, fun m zs3 m1 m2 hz3 => ⟨by omega, by omega, ?_⟩⟩
    refine for_inv (fun ds ρ => (∀ d ∈ ds, ∃ t : Int, d = .int t ∧ 0 ≤ t ∧ t ≤ 1000) ∧ ∃ (cs fs : List Int) (s : Int) (zs : List D) (w6 w7 : Option Cell) (k : Nat), k + ds.length ≤ 130 ∧ cs.length ≤ k ∧ fs.length ≤ k ∧ Pos0 cs ∧ Pos0 fs ∧ 0 ≤ s ∧ Bx (n + 10 + 6 * k) zs ∧ ρ = [some (.own a zs), some (.val (.int (size : Int))), some (.own p (dI cs)), some (.own q (dI fs)), some (.val (.int way)), some (.val (.int s)), w6, w7]) (fun x r ρ K hK hI => ?_) (fun ρ hI => ?_) _ _ ⟨fun d hd => ?_, [], [], 40 + sl, zs3, none, none, 0, by simp [rangeD]; omega, by simp, by simp, fun x h => by simp at h, fun x h => by simp at h, by omega, hz3.mono (by omega), rfl⟩
    · obtain ⟨hd, cs, fs, s, zs, w6, w7, k, hk, hc, hf, pc, pf, hs0, hz, rfl⟩ := hI
      obtain ⟨t, rfl, t0, t1⟩ := hd x (by simp)
      have hk : k + (r.length + 1) ≤ 130 := hk
      refine ⟨p, dI cs, rfl, q, dI fs, rfl, h2, zs, rfl, rfl, _, 2, by omega, hz, rfl, by decide, by decide, fun u zs4 u1 u2 hz4 => ?_⟩
      refine ⟨zs4, rfl, rfl, _, 2, by omega, hz4, rfl, by decide, by decide, fun v zs5 v1 v2 hz5 => ?_⟩
      refine ⟨.inl ⟨by show (-(2 ^ 64) : Int) < u; omega, by show u < (2 ^ 64 : Int); omega⟩, by show (0 : Int) < 2; decide, ?_⟩
      have hix : (t + u * v) % 2 = 0 ∨ (t + u * v) % 2 = 1 := by omega
      have fin : ∀ (first : Bool) (zs6 : List D), Bx (n + 10 + 6 * k + 6) zs6 → ∀ y : Int, 0 ≤ y → K [some (.own a zs6), some (.val (.int (size : Int))), some (.own p (dI (if first = true then cs ++ [s] else cs))), some (.own q (dI (if first = true then fs else fs ++ [s]))), some (.val (.int way)), some (.val (.int y)), some (.val (.int t)), some (.val (.adr (if first = true then p else q)))] := by
        intro first zs6 hz6 y hy
        cases first with
        | true => exact hK _ ⟨fun d hd' => hd d (by simp [hd']), cs ++ [s], fs, y, zs6, _, _, k + 1, by omega, by simp; omega, by omega, pc.snoc hs0, pf, hy, hz6.mono (by omega), rfl⟩
        | false => exact hK _ ⟨fun d hd' => hd d (by simp [hd']), cs, fs ++ [s], y, zs6, _, _, k + 1, by omega, by omega, by simp; omega, pc, pf.snoc hs0, hy, hz6.mono (by omega), rfl⟩
      have zc : (dI cs).length < sizeLine := small1000 (by rw [ints_len]; omega)
      have zf : (dI fs).length < sizeLine := small1000 (by rw [ints_len]; omega)
      rcases hix with e | e
      · refine ⟨.adr p, by show atI [D.adr p, .adr q] ((t + u * v) % 2) = _; rw [e]; rfl, ?_⟩
        refine ⟨p, rfl, ⟨2, by simp, _, rfl⟩, 2, dI cs, by simp, rfl, zc, ?_⟩
        refine ⟨zs5, rfl, rfl, _, 9, by omega, hz5, rfl, by decide, by decide, fun y zs6 _ _ hz6 => ?_⟩
        have := fin true zs6 (hz6.mono (by omega)) (max 0 (s - 1 - y)) (by omega)
        rw [if_pos rfl, if_pos rfl, if_pos rfl, ← dI_snocB] at this
        exact this
      · refine ⟨.adr q, by show atI [D.adr p, .adr q] ((t + u * v) % 2) = _; rw [e]; rfl, ?_⟩
        refine ⟨q, rfl, ⟨3, by simp, _, rfl⟩, 3, dI fs, by simp, rfl, zf, ?_⟩
        refine ⟨zs5, rfl, rfl, _, 9, by omega, hz5, rfl, by decide, by decide, fun y zs6 _ _ hz6 => ?_⟩
        have := fin false zs6 (hz6.mono (by omega)) (max 0 (s - 1 - y)) (by omega)
        rw [if_neg (by decide), if_neg (by decide), if_neg (by decide), ← dI_snocB fs] at this
        exact this
    · obtain ⟨hd, cs, fs, s, zs, w6, w7, k, hk, hc, hf, pc, pf, hs0, hz, rfl⟩ := hI
      have e1 : cutD (dI cs) none (some (size : Int)) = dI (cs.take size) := by rw [cutD_to, dI_take]
      have e2 : cutD (dI fs) none (some (size : Int)) = dI (fs.take size) := by rw [cutD_to, dI_take]
      have := hC (cs.take size) (fs.take size) zs (by rw [List.length_take]; omega) (by rw [List.length_take]; omega) (pc.take _) (pf.take _) (hz.mono (by have : k + 0 ≤ 130 := hk; omega))
      rw [← e1, ← e2] at this
      exact ⟨h2, zs, rfl, this⟩
    · unfold rangeD at hd
      obtain ⟨i, hi, rfl⟩ := List.mem_map.mp hd
      have := List.mem_range.mp hi
      exact ⟨_, rfl, by omega, by omega⟩
  · refine ⟨p, [], rfl, q, [], rfl, h2, ?_⟩
    refine books_one (n := n + 2) (first := true) (cs := []) (fs := []) (by omega) hs hz1 rfl fun l zs2 w6 hl hp hz2 => ?_
    refine books_one (n := n + 2 + 400) (first := false) (cs := l) (fs := []) (by omega) hs hz2 rfl fun l2 zs3 w6 hl2 hp2 hz3 => ?_
    exact ⟨h2, zs3, rfl, hC l l2 zs3 hl hl2 hp hp2 (hz3.mono (by omega))⟩
end Pl
namespace Pl
theorem ord_dom {cuts fills : List Int} (hc : Pos0 cuts) (hf : Pos0 fills) (l : List Int) {m : Nat} {as bs : List Nat} (ha : Rise m 0 as) (hb : Rise m 0 bs) (hl : as.length = bs.length) (h : ∀ f x y : Nat, as[f]? = some x → bs[f]? = some y → y ≤ x) : Lq (stL l cuts fills (ordW 0 as m)) (stL l cuts fills (ordW 0 bs m)) := by
  refine dom_le hc hf l _ _ _ (Nat.le_refl _) ⟨?_, ?_, fun j x y h1 h2 => ?_⟩
  · rw [ordW_cT ha, ordW_cT hb]; exact Nat.le_refl _
  · rw [ordW_cF, ordW_cF, hl]; exact Nat.le_refl _
  · rw [ordW_ahead ha] at h1
    rw [ordW_ahead hb] at h2
    exact h j x y h1 h2
section
variable {cuts fills l : List Int} {ws vs : List Wo}
structure Has (cuts fills : List Int) (o : List Bool) (ws : List Wo) : Prop where
  t : cT o = cuts.length
  f : cF o = fills.length
  b : InB cuts.length fills.length ws
  h : ∀ w ∈ ws, hasW (aheadL 0 o) w = true
theorem Has.rise {o : List Bool} (H : Has cuts fills o ws) : Rise cuts.length 0 (aheadL 0 o) := by
  have := rise_ahead o 0
  rw [Nat.zero_add, H.t] at this
  exact this
theorem Has.len {o : List Bool} (H : Has cuts fills o ws) : (aheadL 0 o).length = fills.length := by rw [aheadL_len, H.f]
theorem Has.no {o : List Bool} (H : Has cuts fills o ws) : NoClash ws := fun u hu v hv => has_noclash H.rise (by rw [H.len]; exact (H.b u hu).2) (by rw [H.len]; exact (H.b v hv).2) (H.h u hu) (H.h v hv)
theorem Has.btw {o : List Bool} (H : Has cuts fills o ws) {f x : Nat} (hx : (aheadL 0 o)[f]? = some x) : loN ws f ≤ x ∧ x ≤ hiN cuts.length ws f := has_between H.rise (by rw [H.len]; exact H.b) H.h hx
theorem Has.ord {o : List Bool} (H : Has cuts fills o ws) : ordW 0 (aheadL 0 o) cuts.length = o := by
  have := ord_of o 0
  rw [Nat.zero_add, H.t] at this
  exact this
theorem Has.lo {o : List Bool} (H : Has cuts fills o ws) (hc : Pos0 cuts) (hf : Pos0 fills) : Lq (loSt l cuts fills ws) (stL l cuts fills o) := by
  rw [← H.ord]
  refine ord_dom hc hf l (hiL_rise _ _ _) H.rise (by rw [hiL_len, H.len]) fun f x y h1 h2 => ?_
  rw [(get_hi h1).1]
  exact (H.btw h2).2
theorem Has.hi {o : List Bool} (H : Has cuts fills o ws) (hc : Pos0 cuts) (hf : Pos0 fills) : Lq (stL l cuts fills o) (hiSt l cuts fills ws) := by
  rw [← H.ord]
  refine ord_dom hc hf l H.rise (loL_rise H.b) (by rw [loL_len, H.len]) fun f x y h1 h2 => ?_
  rw [(get_lo h2).1]
  exact (H.btw h1).1
theorem Has.sub {o : List Bool} (H : Has cuts fills o vs) (h : ∀ w ∈ ws, w ∈ vs) : Has cuts fills o ws := ⟨H.t, H.f, fun w hw => H.b w (h w hw), fun w hw => H.h w (h w hw)⟩
end
end Pl
namespace Pl
open PySem PySem.Spec PyProof.Rows L2
def allO : Nat → Nat → List (List Bool)
  | 0, f => [List.replicate f false]
  | c + 1, 0 => [List.replicate (c + 1) true]
  | c + 1, f + 1 => (allO c (f + 1)).map (true :: ·) ++ (allO (c + 1) f).map (false :: ·)
termination_by c f => c + f
theorem ct_repF : ∀ f, cT (List.replicate f false) = 0 ∧ cF (List.replicate f false) = f
  | 0 => ⟨rfl, rfl⟩
  | f + 1 => by
    obtain ⟨h1, h2⟩ := ct_repF f
    rw [List.replicate_succ]
    exact ⟨h1, by show cF (List.replicate f false) + 1 = f + 1; rw [h2]⟩
theorem ct_repT : ∀ c, cT (List.replicate c true) = c ∧ cF (List.replicate c true) = 0
  | 0 => ⟨rfl, rfl⟩
  | c + 1 => by
    obtain ⟨h1, h2⟩ := ct_repT c
    rw [List.replicate_succ]
    exact ⟨by show cT (List.replicate c true) + 1 = c + 1; rw [h1], h2⟩
theorem only_F : ∀ {o : List Bool}, cT o = 0 → o = List.replicate (cF o) false
  | [], _ => rfl
  | true :: o, h => by exact absurd (show cT o + 1 = 0 from h) (by omega)
  | false :: o, h => by
    show false :: o = List.replicate (cF o + 1) false
    rw [List.replicate_succ, ← only_F (o := o) h]
theorem only_T : ∀ {o : List Bool}, cF o = 0 → o = List.replicate (cT o) true
  | [], _ => rfl
  | false :: o, h => by exact absurd (show cF o + 1 = 0 from h) (by omega)
  | true :: o, h => by
    show true :: o = List.replicate (cT o + 1) true
    rw [List.replicate_succ, ← only_T (o := o) h]
theorem mem_allO : ∀ (n c f : Nat), c + f ≤ n → ∀ o, o ∈ allO c f ↔ cT o = c ∧ cF o = f
  | n, 0, f, _, o => by
    rw [allO, List.mem_singleton]
    constructor
    · rintro rfl; exact ct_repF f
    · rintro ⟨h1, h2⟩; rw [← h2]; exact only_F h1
  | n, c + 1, 0, _, o => by
    rw [allO, List.mem_singleton]
    constructor
    · rintro rfl; exact ct_repT (c + 1)
    · rintro ⟨h1, h2⟩; rw [← h1]; exact only_T h2
  | n + 1, c + 1, f + 1, h, o => by
    rw [allO, List.mem_append, List.mem_map, List.mem_map]
    constructor
    · rintro (⟨r, hr, rfl⟩ | ⟨r, hr, rfl⟩)
      · obtain ⟨h1, h2⟩ := (mem_allO n c (f + 1) (by omega) r).mp hr
        exact ⟨by show cT r + 1 = c + 1; rw [h1], h2⟩
      · obtain ⟨h1, h2⟩ := (mem_allO n (c + 1) f (by omega) r).mp hr
        exact ⟨h1, by show cF r + 1 = f + 1; rw [h2]⟩
    · rintro ⟨h1, h2⟩
      cases o with
      | nil => exact absurd (show (0 : Nat) = c + 1 from h1) (by omega)
      | cons b r =>
        cases b with
        | true => exact .inl ⟨r, (mem_allO n c (f + 1) (by omega) r).mpr ⟨Nat.succ.inj h1, h2⟩, rfl⟩
        | false => exact .inr ⟨r, (mem_allO n (c + 1) f (by omega) r).mpr ⟨h1, Nat.succ.inj h2⟩, rfl⟩
  | 0, c + 1, f + 1, h, _ => by omega
theorem getD_hiL {m n : Nat} {ws : List Wo} {f : Nat} (h : f < n) : (hiL m n ws).getD f 0 = hiN m ws f := by
  unfold hiL
  rw [List.getD_eq_getElem?_getD, List.getElem?_map, List.getElem?_range' h]
  simp
theorem getD_loL {n : Nat} {ws : List Wo} {f : Nat} (h : f < n) : (loL n ws).getD f 0 = loN ws f := by
  unfold loL
  rw [List.getD_eq_getElem?_getD, List.getElem?_map, List.getElem?_range' h]
  simp
section
variable {cuts fills : List Int} {ws : List Wo}
theorem Has.low {o : List Bool} (H : Has cuts fills o ws) : Has cuts fills (ordW 0 (hiL cuts.length fills.length ws) cuts.length) ws := by
  have hr := hiL_rise cuts.length fills.length ws
  refine ⟨by rw [ordW_cT hr]; rfl, by rw [ordW_cF, hiL_len], H.b, fun w hw => ?_⟩
  rw [ordW_ahead hr]
  unfold hasW
  have hb := H.b w hw
  rw [getD_hiL hb.2]
  obtain ⟨k, c, f⟩ := w
  cases k with
  | true =>
    have : c < hiN cuts.length ws f := hi_ge.mpr ⟨hb.1, fun v hv h1 h2 => by
      have := H.no (true, c, f) hw v hv
      obtain ⟨k', c', f'⟩ := v
      have h1 : k' = false := h1
      subst h1
      have h2 : f ≤ f' := h2
      have : (decide (c' ≤ c) && decide (f ≤ f')) = false := this
      show c + 1 ≤ c'
      rw [decide_eq_true h2, Bool.and_true] at this
      have := of_decide_eq_false this
      omega⟩
    show (true == decide (c < hiN cuts.length ws f)) = true
    rw [decide_eq_true this]; rfl
  | false =>
    have : hiN cuts.length ws f ≤ c := (hi_ge.mp (Nat.le_refl _)).2 (false, c, f) hw rfl (Nat.le_refl _)
    show (false == decide (c < hiN cuts.length ws f)) = true
    rw [decide_eq_false (by omega)]; rfl
theorem Has.top {o : List Bool} (H : Has cuts fills o ws) : Has cuts fills (ordW 0 (loL fills.length ws) cuts.length) ws := by
  have hr := loL_rise H.b
  refine ⟨by rw [ordW_cT hr]; rfl, by rw [ordW_cF, loL_len], H.b, fun w hw => ?_⟩
  rw [ordW_ahead hr]
  unfold hasW
  have hb := H.b w hw
  rw [getD_loL hb.2]
  obtain ⟨k, c, f⟩ := w
  cases k with
  | true =>
    have : c + 1 ≤ loN ws f := lo_le.mp (Nat.le_refl _) (true, c, f) hw rfl (Nat.le_refl _)
    show (true == decide (c < loN ws f)) = true
    rw [decide_eq_true (by omega)]; rfl
  | false =>
    have : loN ws f ≤ c := lo_le.mpr fun v hv h1 h2 => by
      have := H.no (false, c, f) hw v hv
      obtain ⟨k', c', f'⟩ := v
      have h1 : k' = true := h1
      subst h1
      have h2 : f' ≤ f := h2
      have : (decide (c ≤ c') && decide (f' ≤ f)) = false := this
      show c' + 1 ≤ c
      rw [decide_eq_true h2, Bool.and_true] at this
      have := of_decide_eq_false this
      omega
    show (false == decide (c < loN ws f)) = true
    rw [decide_eq_false (by omega)]; rfl
end
end Pl
namespace Pl
open PySem PySem.Spec PyProof.Rows L2
theorem noclash_hi {m n : Nat} {ws : List Wo} (hb : InB m n ws) (hn : NoClash ws) : ∀ w ∈ ws, hasW (hiL m n ws) w = true := by
  intro w hw
  obtain ⟨k, c, f⟩ := w
  have hbw : c < m ∧ f < n := hb _ hw
  have e : hasW (hiL m n ws) (k, c, f) = (k == decide (c < hiN m ws f)) := by
    show (k == decide (c < (hiL m n ws).getD f 0)) = _
    rw [getD_hiL hbw.2]
  rw [e]
  cases k with
  | true =>
    have : c + 1 ≤ hiN m ws f := hi_ge.mpr ⟨by omega, fun v hv h1 h2 => by
      have hc := hn _ hw v hv
      obtain ⟨k', c', f'⟩ := v
      have h1 : k' = false := h1
      subst h1
      have h2 : f ≤ f' := h2
      have hc : (decide (c' ≤ c) && decide (f ≤ f')) = false := hc
      rw [decide_eq_true h2, Bool.and_true] at hc
      have := of_decide_eq_false hc
      show c + 1 ≤ c'
      omega⟩
    rw [decide_eq_true (show c < hiN m ws f by omega)]; rfl
  | false =>
    have : hiN m ws f ≤ c := (hi_ge.mp (Nat.le_refl (hiN m ws f))).2 (false, c, f) hw rfl (Nat.le_refl f)
    rw [decide_eq_false (show ¬ c < hiN m ws f by omega)]; rfl
theorem noclash_has {cuts fills : List Int} {ws : List Wo} (hb : InB cuts.length fills.length ws) (hn : NoClash ws) : Has cuts fills (ordW 0 (hiL cuts.length fills.length ws) cuts.length) ws := by
  have hr := hiL_rise cuts.length fills.length ws
  have ea := ordW_ahead hr
  exact ⟨by rw [ordW_cT hr]; rfl, by rw [ordW_cF, hiL_len], hb, fun w hw => by rw [ea]; exact noclash_hi hb hn w hw⟩
theorem contr_self (u : Wo) : contr u u = false := by obtain ⟨k, c, f⟩ := u; cases k <;> rfl
theorem contr_symm (u v : Wo) : contr u v = contr v u := by
  obtain ⟨k, c, f⟩ := u
  obtain ⟨k', c', f'⟩ := v
  cases k <;> cases k' <;> rfl
theorem noclash_two {u v : Wo} (h : contr u v = false) : NoClash [u, v] := fun a ha b hb => by
  simp only [List.mem_cons, List.not_mem_nil, or_false] at ha hb
  rcases ha with rfl | rfl <;> rcases hb with rfl | rfl
  · exact contr_self _
  · exact h
  · rw [contr_symm]; exact h
  · exact contr_self _
theorem both_iff {cuts fills : List Int} {u v : Wo} (hb : InB cuts.length fills.length [u, v]) : (∃ o, Has cuts fills o [u, v]) ↔ contr u v = false := by
  constructor
  · rintro ⟨o, H⟩
    exact H.no u (by simp) v (by simp)
  · intro h
    exact ⟨_, noclash_has hb (noclash_two h)⟩
end Pl
namespace Pl
open PySem PySem.Spec PyProof.Rows L2
def PosM (l : List Int) : Prop := ∀ x ∈ l, 0 ≤ x ∧ x < 1000000000
theorem PosM.snoc {l : List Int} {x : Int} (h : PosM l) (hx : 0 ≤ x ∧ x < 1000000000) : PosM (l ++ [x]) := fun y hy => by
  rcases List.mem_append.mp hy with hy | hy
  · exact h y hy
  · rw [List.mem_singleton.mp hy]; exact hx
theorem PosM.take {l : List Int} (h : PosM l) (n : Nat) : PosM (l.take n) := fun y hy => h y (List.mem_of_mem_take hy)
theorem PosM.pos {l : List Int} (h : PosM l) : Pos0 l := fun x hx => (h x hx).1
end Pl
namespace Pl
open PySem PySem.Spec PyProof.Rows L2
variable [TJ]
def NEl (K : PySem.W.Frag) (G F H : Hp) (ρ : Ro) (p : Addr) (xs : List D) : Prop := F p = none ∧ G p = none ∧ NotOwn ρ p ∧ ∃ us, H p = some (.lst us) ∧ Reps K F us xs
structure Nst (K : PySem.W.Frag) (G F H : Hp) (σ : L2.St) (ρ : Ro) (i : Nat) (q : Addr) (es : List (Addr × List D)) : Prop where
  sl : σ[i]? = some (some (.ref q))
  z : ρ[i]? = some none
  nf : F q = none
  ng : G q = none
  no : NotOwn ρ q
  hq : H q = some (.lst (es.map fun e => V.ref e.1))
  el : ∀ e ∈ es, NEl K G F H ρ e.1 e.2
  nd : (q :: es.map (·.1)).Nodup
open Classical in
noncomputable def plusG (G H : Hp) (as : List Addr) : Hp := fun b => if b ∈ as then H b else G b
theorem plus_in {G H : Hp} {as : List Addr} {b : Addr} (h : b ∈ as) : plusG G H as b = H b := by unfold plusG; rw [if_pos h]
theorem plus_out {G H : Hp} {as : List Addr} {b : Addr} (h : b ∉ as) : plusG G H as b = G b := by unfold plusG; rw [if_neg h]
section
variable {K : PySem.W.Frag} {G F H F1 H1 : Hp} {σ : L2.St} {ρ ρ1 : Ro} {i : Nat} {q : Addr} {es : List (Addr × List D)}
theorem Sim.rebase (S : Sim K G F H σ ρ) (hF : Same F H1) (hG : SameJ G F H1) (ho : ∀ b, isOwn ρ b ∨ InBox ρ b → H1 b = H b) : Sim K G F H1 σ ρ :=
  ⟨hF, hG, S.len, S.val, fun i a xs e => by
    obtain ⟨h1, h2, h3, vs, h4, h5⟩ := S.own i a xs e
    exact ⟨h1, h2, h3, vs, by rw [ho a (.inl ⟨i, xs, e⟩)]; exact h4, h5⟩, S.ne, S.bx.heap (.refl _) fun p m => ⟨(S.bx.free m).1, (S.bx.free m).2.1, ho p (.inr m)⟩⟩
abbrev adrs (q : Addr) (es : List (Addr × List D)) : List Addr := q :: es.map (·.1)
theorem Nst.free (N : Nst K G F H σ ρ i q es) {b : Addr} (h : b ∈ adrs q es) : F b = none ∧ G b = none ∧ NotOwn ρ b ∧ ∃ us, H b = some (.lst us) := by
  rcases List.mem_cons.mp h with e | h
  · subst e; exact ⟨N.nf, N.ng, N.no, _, N.hq⟩
  · obtain ⟨e, he, rfl⟩ := List.mem_map.mp h
    obtain ⟨h1, h2, h3, us, h4, _⟩ := N.el e he
    exact ⟨h1, h2, h3, us, h4⟩
theorem Nst.same {A : Hp} (N : Nst K G F H σ ρ i q es) (h : ∀ b ∈ adrs q es, A b = none) : Same A (plusG A H (adrs q es)) := fun b o e => by
  rw [plus_out fun z => by rw [h b z] at e; cases e]; exact e
theorem Nst.guard (S : Sim K G F H σ ρ) (N : Nst K G F H σ ρ i q es) : Sim K (plusG G H (adrs q es)) F H σ ρ :=
  ⟨S.hF, ⟨fun b o e => by
    by_cases h : b ∈ adrs q es
    · rw [plus_in h] at e; exact e
    · rw [plus_out h] at e; exact S.hG b o e, TJ.frame S.hG.tj fun b o e => by
    by_cases h : b ∈ adrs q es
    · obtain ⟨_, _, _, us, h4⟩ := N.free h
      exact .inr ⟨_, h4, trivial⟩
    · rw [plus_out h] at e; exact .inl e⟩, S.len, S.val, fun j a xs e => by
    obtain ⟨h1, h2, h3, h4⟩ := S.own j a xs e
    exact ⟨h1, h2, by rw [plus_out fun z => (N.free z).2.2.1.1 j xs e]; exact h3, h4⟩, S.ne, S.bx.heap (.refl _) fun p m => ⟨(S.bx.free m).1, by rw [plus_out fun z => (N.free z).2.2.1.2 m]; exact (S.bx.free m).2.1, rfl⟩⟩
theorem Nst.mut (S : Sim K G F H σ ρ) (N : Nst K G F H σ ρ i q es) {j : Nat} {e : Addr × List D} {vs : List V} {ys : List D} (he : es[j]? = some e) (r : Reps K F vs ys) :
    Sim K G F (upd H e.1 (.lst vs)) σ ρ ∧ Nst K G F (upd H e.1 (.lst vs)) σ ρ i q (es.set j (e.1, ys)) := by
  have hm : e ∈ es := List.mem_of_getElem? he
  obtain ⟨h1, h2, h3, us, h4, h5⟩ := N.el e hm
  have hj : j < es.length := by
    rcases Nat.lt_or_ge j es.length with h | h
    · exact h
    · rw [List.getElem?_eq_none h] at he; cases he
  have nq : q ≠ e.1 := fun z => (List.nodup_cons.mp N.nd).1 (z ▸ List.mem_map.mpr ⟨e, hm, rfl⟩)
  have em : (es.set j (e.1, ys)).map (fun x => x.1) = es.map (fun x => x.1) := by
    rw [List.map_set]
    refine List.ext_getElem? fun k => ?_
    by_cases hk : j = k
    · subst hk
      rw [List.getElem?_set_self (by rw [List.length_map]; exact hj), List.getElem?_map, he]; rfl
    · rw [List.getElem?_set_ne hk]
  refine ⟨S.rebase (fun b o z => ?_) (S.hG.mut h2 h4) (fun b hb => ?_), ⟨N.sl, N.z, N.nf, N.ng, N.no, ?_, fun x hx => ?_, by rw [em]; exact N.nd⟩⟩
  · rw [upd_ne fun y => by subst y; rw [h1] at z; cases z]; exact S.hF b o z
  · rcases hb with ⟨k, xs, z⟩ | hb
    · rw [upd_ne fun y => by subst y; exact h3.1 k xs z]
    · rw [upd_ne fun y => by subst y; exact h3.2 hb]
  · rw [upd_ne nq, N.hq]
    have : (es.set j (e.1, ys)).map (fun x => V.ref x.1) = es.map (fun x => V.ref x.1) := by
      have := congrArg (List.map V.ref) em
      rw [List.map_map, List.map_map] at this; exact this
    rw [this]
  · rcases List.mem_or_eq_of_mem_set hx with hx' | hx'
    · by_cases hxe : x.1 = e.1
      ·
        obtain ⟨k, hk⟩ := List.getElem?_of_mem hx
        by_cases hjk : j = k
        · subst hjk
          rw [List.getElem?_set_self hj] at hk
          cases hk
          exact ⟨h1, h2, h3, vs, upd_same, r⟩
        · rw [List.getElem?_set_ne hjk] at hk
          have nd := (List.nodup_cons.mp N.nd).2
          have a1 : (es.map (·.1))[j]? = some e.1 := by rw [List.getElem?_map, he]; rfl
          have a2 : (es.map (·.1))[k]? = some x.1 := by rw [List.getElem?_map, hk]; rfl
          have hkl : k < (es.map (·.1)).length := by
            rcases Nat.lt_or_ge k (es.map (·.1)).length with h | h
            · exact h
            · rw [List.getElem?_eq_none h] at a2; cases a2
          exact absurd ((List.getElem?_inj (by rw [List.length_map]; exact hj) nd).mp (by rw [a1, a2, hxe])) hjk
      · obtain ⟨g1, g2, g3, ws, g4, g5⟩ := N.el x hx'
        exact ⟨g1, g2, g3, ws, by rw [upd_ne hxe]; exact g4, g5⟩
    · subst hx'
      exact ⟨h1, h2, h3, vs, upd_same, r⟩
end
section
variable {X : Cx} {i : Nat} {st a rest : List Stmt} {t u : TS} {T : TSp} {U : List (List D) → TSp} {e : Expr} {es : List Expr} {te : TE} {ta : TA} {Te : TEp} {Tc : TCs} {pos : Pos}
theorem NEl.more {K : PySem.W.Frag} {G F H : Hp} {ρ : Ro} {p r : Addr} {xs : List D} {o : HO} {i : Nat} (h : NEl K G F H ρ p xs) (hr : H r = none) : NEl K G F (upd H r o) (ρ.set i none) p xs := by
  obtain ⟨h1, h2, h3, us, h4, h5⟩ := h
  refine ⟨h1, h2, ⟨fun j ys e => ?_, fun m => h3.2 (set_inbox (by simp) m)⟩, us, by rw [upd_ne (ne_of_none h4 hr)]; exact h4, h5⟩
  by_cases hj : i = j
  · subst hj
    by_cases hi : i < ρ.length
    · rw [List.getElem?_set_self hi] at e; cases e
    · rw [List.getElem?_eq_none (by simpa using hi)] at e; cases e
  · rw [List.getElem?_set_ne hj] at e; exact h3.1 j ys e
end
end Pl
namespace Pl
open PySem PySem.Spec PyProof.Rows L2
def Calm0 (A : Around) : Prop := A.guards = some []
structure FnG (P : Program) (w : World) (K : PySem.W.Frag) (mg : Str → Option Value) (bs : Heap) (n : Nat) (f : Addr) (fd : FuncData) (ps : List Str) (sp : Sp) : Prop where
  len : ∀ vs H Q E, sp vs H Q E → vs.length = ps.length
  run : ∀ (A : Around) (out : List Env) (s : Shared) (H : Hp) (ar : Args) (us : List Value) (vs : List V) (Q : VK) (E : XK), Calm0 A → Room n A → Env0 P w K mg bs A out s H → BindsTo s fd ar (ps.zip us) → Vals vs us → sp vs H Q E →
    codeAny (model P w) A (.call (.ref f) ar) (CR CX0 out P w H s Q E) s
theorem FnG.mono {P : Program} {w : World} {K : PySem.W.Frag} {mg : Str → Option Value} {bs : Heap} {m n : Nat} {f : Addr} {fd : FuncData} {ps : List Str} {sp : Sp} (F : FnG P w K mg bs m f fd ps sp) (h : m ≤ n) : FnG P w K mg bs n f fd ps sp :=
  ⟨F.len, fun A out s H ar us vs Q E hc hr => F.run A out s H ar us vs Q E hc (hr.mono h)⟩
end Pl
namespace Pl
open PySem PySem.Spec PyProof.Rows L2
section
variable {P : Program} {w : World} {K : PySem.W.Frag} {mg mb : Str → Option Value} {H : Hp} {h : Heap} {a b : Addr} {vs : List Value}
structure Begin (P : Program) (w : World) (K : PySem.W.Frag) (H : Hp) (h : Heap) (a : Addr) : Prop where
  one : ∀ b, H b ≠ none → b = a
  own : H a ≠ none → K.lookup a = none
  ok : HOk P w H h
  only : Only H
theorem Begin.none (B : Begin P w K H h a) (ne : b ≠ a) : H b = .none := Classical.byContradiction fun z => ne (B.one b z)
theorem Begin.kin (B : Begin P w K H h a) (k : K.In h) : K.In (hidT h H) := fun b o e => by
  refine hidT_get (k b o e) (Classical.byContradiction fun z => ?_)
  have z2 := B.one b z
  subst z2
  rw [B.own z] at e
  cases e
theorem Begin.ns {o : Obj} {its : Array Value} {q : Nat} {m : Str → Option Value} (B : Begin P w K H h a) (e : h.get? a = some o) (d : o.data = .seq its q) (N : h.Ns b m) : (hidT h H).Ns b m := by
  obtain ⟨o2, es, ep, e2, d2, r⟩ := N
  refine ⟨o2, es, ep, hidT_get e2 (B.none fun z => ?_), d2, r⟩
  rw [z, e] at e2
  cases e2
  rw [d] at d2
  cases d2
theorem Begin.kept {s s' : Shared} {H' : Hp} (B : Begin P w K H s.heap a) (un : Un (frs []) [] H H' s.heap s'.heap) (ok' : HOk P w H' s'.heap) : OldK s.heap s'.heap := OldK.of_keep fun b o e => by
  rcases B.only b with z | ⟨o2, xs, z⟩
  · exact un.keep b o e z (fun m => by cases m) (by simp)
  · have e1 := (B.ok b _ z).1
    have e2 := (ok' b _ (un.frzs b o2 _ z)).1
    rw [e] at e1
    cases e1
    exact e2
end
end Pl
namespace Pl
open PySem PySem.Spec PyProof.Rows L2
structure Sh1 (n W : Nat) (d : PyData) : Prop where
  lay : d.canLay0 = true
  show' : d.showable = true
  short : d.leavesShort 13 = true
  depth : d.depth ≤ n
  weight : d.weight ≤ W
structure ShA (n W k : Nat) (xs : List PyData) : Prop where
  lay : PyData.canLayAll0 xs = true
  show' : PyData.showableAll xs = true
  short : PyData.leavesShortAll 13 xs = true
  depth : PyData.depthAll xs ≤ n
  weight : PyData.weightAll xs ≤ k * (W + 1)
theorem ShA.sh {n W m k : Nat} {xs : List PyData} (h : ShA n W k xs) (hk : k ≤ m) : Sh1 (n + 1) (m * (W + 1) + 41) (.list xs) ∧ Sh1 (n + 1) (m * (W + 1) + 41) (.tuple xs) := by
  have hw := h.weight
  have hm : k * (W + 1) ≤ m * (W + 1) := Nat.mul_le_mul_right _ hk
  refine ⟨⟨?_, ?_, ?_, ?_, ?_⟩, ⟨?_, ?_, ?_, ?_, ?_⟩⟩
  · rw [PyData.canLay0]; exact h.lay
  · rw [PyData.showable]; exact h.show'
  · rw [PyData.leavesShort]; exact h.short
  · rw [PyData.depth]; exact Nat.succ_le_succ h.depth
  · rw [PyData.weight]; omega
  · rw [PyData.canLay0]; exact h.lay
  · rw [PyData.showable]; exact h.show'
  · rw [PyData.leavesShort]; exact h.short
  · rw [PyData.depth]; exact Nat.succ_le_succ h.depth
  · rw [PyData.weight]; omega
end Pl
namespace Pl
open PySem PySem.Spec PyProof.Rows L2
def As (k : Nat) (x : Str) : Prop := (∀ c ∈ x.cps.toList, c < 128) ∧ x.cps.size ≤ 33 + k
def Gd (k : Nat) : Nat → D → Prop
  | _, .non => True
  | _, .bl _ => True
  | _, .int i => i.natAbs ≤ 10 ^ 30 + k
  | _, .str x => As k x
  | n + 1, .lst xs => ∀ x ∈ xs, Gd k n x
  | n + 1, .tup xs => ∀ x ∈ xs, Gd k n x
  | _, _ => False
theorem As.up {k k' : Nat} {x : Str} (h : As k x) (hk : k ≤ k') : As k' x := ⟨h.1, by have := h.2; omega⟩
theorem Gd.up {k k' : Nat} (hk : k ≤ k') : ∀ {n n' : Nat} {d : D}, n ≤ n' → Gd k n d → Gd k' n' d
  | n, n', .non, _, _ => by cases n' <;> trivial
  | n, n', .bl _, _, _ => by cases n' <;> trivial
  | n, n', .int i, _, h => by
    have h : i.natAbs ≤ 10 ^ 30 + k := by cases n <;> exact h
    cases n' <;> exact (by show i.natAbs ≤ 10 ^ 30 + k'; omega)
  | n, n', .str x, _, h => by
    have h : As k x := by cases n <;> exact h
    cases n' <;> exact h.up hk
  | n + 1, n' + 1, .lst xs, hn, h => fun x hx => Gd.up hk (Nat.le_of_succ_le_succ hn) (h x hx)
  | n + 1, n' + 1, .tup xs, hn, h => fun x hx => Gd.up hk (Nat.le_of_succ_le_succ hn) (h x hx)
  | n + 1, 0, _, hn, _ => by omega
  | 0, _, .lst _, _, h => h.elim
  | 0, _, .tup _, _, h => h.elim
  | 0, _, .scr _, _, h => h.elim
  | _ + 1, _, .scr _, _, h => h.elim
  | 0, _, .adr _, _, h => h.elim
  | _ + 1, _, .adr _, _, h => h.elim
  | 0, _, .exc _ _, _, h => h.elim
  | _ + 1, _, .exc _ _, _, h => h.elim
structure Shq (n : Nat) (d : PyData) : Prop where
  lay : d.canLay0 = true
  show' : d.showable = true
  short : d.leavesShort 40 = true
  depth : d.depth ≤ n
structure ShqA (n : Nat) (xs : List PyData) : Prop where
  lay : PyData.canLayAll0 xs = true
  show' : PyData.showableAll xs = true
  short : PyData.leavesShortAll 40 xs = true
  depth : PyData.depthAll xs ≤ n
theorem shqA {n : Nat} : ∀ {xs : List D}, (∀ x ∈ xs, Shq n (toPy x)) → ShqA n (toPys xs)
  | [], _ => by rw [toPys]; exact ⟨rfl, rfl, rfl, Nat.zero_le _⟩
  | x :: xs, h => by
    have h1 := h x (by simp)
    have h2 := shqA (xs := xs) fun y hy => h y (by simp [hy])
    rw [toPys]
    refine ⟨?_, ?_, ?_, ?_⟩
    · rw [PyData.canLayAll0, h1.lay, h2.lay]; rfl
    · rw [PyData.showableAll, h1.show', h2.show']; rfl
    · rw [PyData.leavesShortAll, h1.short, h2.short]; rfl
    · rw [PyData.depthAll]; exact Nat.max_le.mpr ⟨h1.depth, h2.depth⟩
theorem ShqA.sh {n : Nat} {xs : List PyData} (h : ShqA n xs) : Shq (n + 1) (.list xs) ∧ Shq (n + 1) (.tuple xs) := by
  refine ⟨⟨?_, ?_, ?_, ?_⟩, ⟨?_, ?_, ?_, ?_⟩⟩
  · rw [PyData.canLay0]; exact h.lay
  · rw [PyData.showable]; exact h.show'
  · rw [PyData.leavesShort]; exact h.short
  · rw [PyData.depth]; exact Nat.succ_le_succ h.depth
  · rw [PyData.canLay0]; exact h.lay
  · rw [PyData.showable]; exact h.show'
  · rw [PyData.leavesShort]; exact h.short
  · rw [PyData.depth]; exact Nat.succ_le_succ h.depth
theorem gd_shq {k : Nat} (hk : k ≤ 1000) : ∀ (n : Nat) (d : D), Gd k n d → Shq n (toPy d)
  | n, .non, _ => by rw [toPy]; exact ⟨rfl, rfl, rfl, Nat.zero_le _⟩
  | n, .bl b, _ => by rw [toPy]; exact ⟨rfl, rfl, rfl, Nat.zero_le _⟩
  | n, .int i, h => by
    have h : i.natAbs ≤ 10 ^ 30 + k := by cases n <;> exact h
    have hl : i.natAbs.log2 < 1920 := by
      by_cases z : i.natAbs = 0
      · rw [z]; decide
      · exact Nat.lt_trans ((Nat.log2_lt z).mpr (show i.natAbs < 2 ^ 101 by omega)) (by decide)
    rw [toPy]
    refine ⟨rfl, ?_, ?_, Nat.zero_le _⟩
    · rw [PyData.showable]; exact decide_eq_true hl
    · rw [PyData.leavesShort]
      refine decide_eq_true ?_
      show (Str.ofString (toString i)).length ≤ 40
      rw [PyProof.Rows.ofString_len]
      exact Nat.le_trans (int_text_length_le10 (k := 31) (by decide) (by omega)) (by decide)
  | n, .str x, h => by
    have h : As k x := by cases n <;> exact h
    rw [toPy]
    refine ⟨?_, rfl, ?_, Nat.zero_le _⟩
    · rw [PyData.canLay0]
      unfold PyData.strOk
      rw [← Array.all_toList, List.all_eq_true]
      exact fun c q => decide_eq_true (by have := h.1 c q; omega)
    · rw [PyData.leavesShort, List.all_eq_true]
      exact fun c q => decide_eq_true (by have := h.1 c q; omega)
  | n + 1, .lst xs, h => by rw [toPy]; exact ((shqA fun x hx => gd_shq hk n x (h x hx)).sh).1
  | n + 1, .tup xs, h => by rw [toPy]; exact ((shqA fun x hx => gd_shq hk n x (h x hx)).sh).2
  | 0, .lst xs, h => h.elim
  | 0, .tup xs, h => h.elim
  | 0, .scr _, h => h.elim
  | _ + 1, .scr _, h => h.elim
  | 0, .adr _, h => h.elim
  | _ + 1, .adr _, h => h.elim
  | 0, .exc _ _, h => h.elim
  | _ + 1, .exc _ _, h => h.elim
theorem gd_sh {k n : Nat} (hk : k ≤ 1000) (hn : n ≤ 60) {d : D} (h : Gd k n d) : d.sh := by
  have := gd_shq hk n d h
  unfold D.sh SeqAt.shaped
  rw [this.lay, decide_eq_true (Nat.le_trans this.depth (by omega))]; rfl
end Pl
namespace Pl
open PySem PySem.Spec PyProof.Rows L2
abbrev N_is_enough : List Str := [("dune" : Str), ("cuts" : Str), ("fills" : Str), ("words" : Str)]
def T_is_enough (g_sure_posts : FA) : TSp :=
  (pRet (pVal (pOp fEq (pCB fLen (pCons (pFrz (pCallA 4 g_sure_posts (pCons (pVar 0) (pCons (pVar 1) (pCons (pVar 2) (pCons (pVar 3) pNil)))))) pNil)) (pLenO 0))))
abbrev N__law_told : List Str := [("_law_dune_here" : Str), ("_law_cuts" : Str), ("_law_fills" : Str), ("_law_words_here" : Str), ("_law_caught" : Str), ("_law_told_here" : Str), ("error" : Str)]
def T__law_told (g_is_enough : FA) (gx_is_enough : FX) : TSp :=
  (pSeq (pAsg (pTup (pCons (pC .non) (pCons (pC .non) pNil))) (hTup 2 (hCons (hName 4) (hCons (hName 5) hNil))))
    (pSeq (pTry 6 4 [("Against" : Str), ("Clash" : Str), ("Unlike" : Str)]
    (xOr (pSet 5 (pCallA 4 g_is_enough (pCons (pVar 0) (pCons (pVar 1) (pCons (pVar 2) (pCons (pVar 3) pNil))))))
    (xE (xCall 4 gx_is_enough (pCons (pVar 0) (pCons (pVar 1) (pCons (pVar 2) (pCons (pVar 3) pNil))))))))
    (pSeq (pIfS (pTest (pOp fIsN (pVar 4) (pC .non)))
    (pRet (pMove 5))
    pNext)
    (pSeq (pIfS (pOr (pNot (pTest (pIsX [("Against" : Str), ("Clash" : Str), ("Unlike" : Str)] [("Clash" : Str)] (pVar 4)))) (pOr (pTest (pIsX [("Against" : Str), ("Clash" : Str), ("Unlike" : Str)] [("Against" : Str), ("Unlike" : Str)] (pVar 4))) (pNot (pTest (pIsX [("Against" : Str), ("Clash" : Str), ("Unlike" : Str)] [("ValueError" : Str)] (pVar 4))))))
    (pRet (pVal (pC (.str "other"))))
    pNext)
    (pRet (pVal (pTup (pCons (pC (.str "clash")) (pCons (pXf [("Against" : Str), ("Clash" : Str), ("Unlike" : Str)] "places" (pVar 4)) pNil)))))))))
abbrev N__law_clash : List Str := [("_law_orders_here" : Str), ("_law_words_here" : Str), ("_law_one" : Str), ("_law_two" : Str), ("_law_order_here" : Str)]
def T__law_clash (g__law_has : FA) : TSp :=
  (pSeq (pFor (jRng1 (pCons (pLenO 1) pNil)) (hName 2)
    (pFor (jRng2 (pCons (pOp fAdd (pVar 2) (pC (.int 1))) (pCons (pLenO 1) pNil))) (hName 3)
    (pIfS (pNot (pTest (pCB fAny (pCons (pLc (jSeq (pVar 0)) (hName 4) pYes (pAndV (pFrz (pCallA 2 g__law_has (pCons (pVar 4) (pCons (pIxO 1 (pVar 2)) pNil)))) (pFrz (pCallA 2 g__law_has (pCons (pVar 4) (pCons (pIxO 1 (pVar 3)) pNil))))) [4]) pNil))))
    (pRet (pVal (pTup (pCons (pVar 2) (pCons (pVar 3) pNil)))))
    pNext)))
    (pRet (pVal (pC .non))))
abbrev N__law_right : List Str := [("_law_box_here" : Str), ("_law_dune_here" : Str), ("_law_cuts" : Str), ("_law_fills" : Str), ("_law_orders_here" : Str), ("_law_order_here" : Str), ("_law_size" : Str), ("_law_words_here" : Str), ("_law_one" : Str), ("_law_word" : Str), ("_law_some" : Str), ("_law_ends" : Str), ("_law_due" : Str), ("_law_as_lists" : Str), ("_law_told_here" : Str)]
def T__law_right_1 (g__law_dune : FB) (g__law_books : FB) : TSp :=
  (pAsg (pTup (pCons (pFrz (pCallB 0 2 g__law_dune (pCons (pC (.int 6)) pNil))) (pCons (pFrz (pCallB 0 2 g__law_books (pCons (pC (.int 4)) pNil))) pNil))) (hTup 2 (hCons (hName 1) (hCons (hTup 2 (hCons (hName 2) (hCons (hName 3) hNil))) hNil))))
def T__law_right_2 (g__law_orders : FA) (g__law_order : FB) : TSp :=
  (pPar 4 5 (pCons (pFrz (pCallA 2 g__law_orders (pCons (pLenO 2) (pCons (pLenO 3) pNil)))) (pCons (pFrz (pCallB 0 3 g__law_order (pCons (pLenO 2) (pCons (pLenO 3) pNil)))) pNil)))
def T__law_right_3_1 (g__law_words : FB) : TSp :=
  (pSet 7 (pCallB 0 3 g__law_words (pCons (pVar 5) (pCons (pVar 6) pNil))))
def T__law_right_3_2 (g__law_has : FA) : TSp :=
  (pSet 10 (pVal (pLc (jSeq (pVar 4)) (hName 8) (pTest (pCB fAll (pCons (pLc (jSeq (pVar 7)) (hName 9) pYes (pFrz (pCallA 2 g__law_has (pCons (pVar 8) (pCons (pVar 9) pNil)))) [9]) pNil))) (pVar 8) [8])))
def T__law_right_3_3 (g__law_behind : FA) (g__law_almanac : FA) : TSp :=
  (pSet 11 (pVal (pLc (jSeq (pVar 10)) (hName 8) pYes (pFrz (pCallA 2 g__law_behind (pCons (pVar 1) (pCons (pFrz (pCallA 3 g__law_almanac (pCons (pVar 2) (pCons (pVar 3) (pCons (pVar 8) pNil))))) pNil)))) [8])))
def T__law_right_3_4 (g__law_clash : FA) : TSp :=
  (pSet 12 (pVal (pIf (pTest (pOp fNe (pVar 10) (pLst pNil))) (pOp fEq (pVar 11) (pOp fRep (pSl (pVar 11) pNoPart (pPart (pC (.int 1)))) (pLenO 11))) (pTup (pCons (pC (.str "clash")) (pCons (pFrz (pCallA 2 g__law_clash (pCons (pVar 4) (pCons (pVar 7) pNil)))) pNil))))))
def T__law_right_3_5 : TSp :=
  (pSet 13 (pVal (pLc (jSeq (pVar 7)) (hName 8) pYes (pCB fLst (pCons (pVar 8) pNil)) [8])))
def T__law_right_3_6 (g__law_told : FA) : TSp :=
  (pSet 14 (pVal (pLst (pCons (pFrz (pCallA 4 g__law_told (pCons (pVar 1) (pCons (pVar 2) (pCons (pVar 3) (pCons (pVar 7) pNil)))))) (pCons (pFrz (pCallA 4 g__law_told (pCons (pCB fLst (pCons (pVar 1) pNil)) (pCons (pCB fTup (pCons (pVar 2) pNil)) (pCons (pVar 3) (pCons (pVar 13) pNil)))))) pNil)))))
def T__law_right_3_7_1 : TSp :=
  (pRet (pVal (pC (.bl false))))
def T__law_right_3_7 (g__law_same : FA) : TSp :=
  (pIfS (pNot (pTest (pFrz (pCallA 2 g__law_same (pCons (pVar 14) (pCons (pLst (pCons (pVar 12) (pCons (pVar 12) pNil))) pNil))))))
    T__law_right_3_7_1
    pNext)
def T__law_right_3 (g__law_same : FA) (g__law_behind : FA) (g__law_almanac : FA) (g__law_has : FA) (g__law_words : FB) (g__law_told : FA) (g__law_clash : FA) : TSp :=
  (pFor (jSeq (pTup (pCons (pC (.int 0)) (pCons (pC (.int 3)) (pCons (pC (.int 6)) pNil))))) (hName 6)
    (pSeq (T__law_right_3_1 g__law_words)
    (pSeq (T__law_right_3_2 g__law_has)
    (pSeq (T__law_right_3_3 g__law_behind g__law_almanac)
    (pSeq (T__law_right_3_4 g__law_clash)
    (pSeq T__law_right_3_5
    (pSeq (T__law_right_3_6 g__law_told)
    (T__law_right_3_7 g__law_same))))))))
def T__law_right_4 : TSp :=
  (pRet (pVal (pC (.bl true))))
def T__law_right (g__law_same : FA) (g__law_behind : FA) (g__law_dune : FB) (g__law_books : FB) (g__law_orders : FA) (g__law_almanac : FA) (g__law_order : FB) (g__law_has : FA) (g__law_words : FB) (g__law_told : FA) (g__law_clash : FA) : TSp :=
  (pSeq (T__law_right_1 g__law_dune g__law_books)
    (pSeq (T__law_right_2 g__law_orders g__law_order)
    (pSeq (T__law_right_3 g__law_same g__law_behind g__law_almanac g__law_has g__law_words g__law_told g__law_clash)
    T__law_right_4)))
abbrev N_law : List Str := [("_law_script" : Str), ("_law_k" : Str)]
def T_law_1 (g__law_box : FA) (g__law_right : FB) : TSp :=
  (pRet (pVal (pCB fAll (pCons (pLc (jRng1 (pCons (pOp fAdd (pC (.int 1)) (pCB fMin2 (pCons (pC (.int 3)) (pCons (pLenO 0) pNil)))) pNil)) (hName 1) pYes (pFrz (pCallX 1 g__law_right (pCallA 2 g__law_box (pCons (pVar 0) (pCons (pVar 1) pNil))) pNil)) [1]) pNil))))
def T_law (g__law_box : FA) (g__law_right : FB) : TSp :=
  (T_law_1 g__law_box g__law_right)
def TX_is_enough (g_sure_posts : FA) (gx_sure_posts : FX) : TXs :=
  (xOr (pRet (pVal (pOp fEq (pCB fLen (pCons (pFrz (pCallA 4 g_sure_posts (pCons (pVar 0) (pCons (pVar 1) (pCons (pVar 2) (pCons (pVar 3) pNil)))))) pNil)) (pLenO 0))))
    (xE (xCall 4 gx_sure_posts (pCons (pVar 0) (pCons (pVar 1) (pCons (pVar 2) (pCons (pVar 3) pNil)))))))
theorem allO_len1 : ∀ (n c f : Nat), c + f ≤ n → (allO c f).length ≤ 2 ^ (c + f - 1)
  | _, 0, f, _ => by rw [allO]; exact Nat.one_le_two_pow
  | _, c + 1, 0, _ => by rw [allO]; exact Nat.one_le_two_pow
  | 0, c + 1, f + 1, h => by omega
  | n + 1, c + 1, f + 1, h => by
    rw [allO, List.length_append, List.length_map, List.length_map]
    have h1 := allO_len1 n c (f + 1) (by omega)
    have h2 := allO_len1 n (c + 1) f (by omega)
    rw [show c + (f + 1) - 1 = c + f by omega] at h1
    rw [show c + 1 + f - 1 = c + f by omega] at h2
    rw [show c + 1 + (f + 1) - 1 = (c + f) + 1 by omega, Nat.pow_succ]
    omega
theorem allO_five {c f : Nat} (hc : c ≤ 5) (hf : f ≤ 5) : (allO c f).length ≤ 512 :=
  Nat.le_trans (allO_len1 (c + f) c f (Nat.le_refl _)) (show 2 ^ (c + f - 1) ≤ 2 ^ 9 from Nat.pow_le_pow_right (by decide) (by omega))
abbrev txD (o : List Bool) : D := .str (txt o)
theorem lit_f1 : ("f" : Str) = ⟨#[102]⟩ := by decide +kernel
theorem mul_f (n : Nat) : Txt.mul ("f" : Str) ((n : Nat) : Int) = txt (List.replicate n false) := by
  refine str_ext ?_
  rw [lit_f1, mul_one_list]
  show List.replicate (Int.toNat (n : Int)) 102 = (List.replicate n false).map sg
  rw [List.map_replicate, Int.toNat_natCast]; rfl
def gOr : Nat → FA
  | 0 => fun _ _ => False
  | n + 1 => fun ds C => ∃ c f : Nat, ds = [.int (c : Int), .int (f : Int)] ∧ c ≤ 5 ∧ f ≤ 5 ∧ (c = 0 ∨ f = 0 ∨ c + f ≤ n + 1) ∧ ∀ p, C (.own p ((allO c f).map txD))
theorem rd_or (n : Nat) : ∀ ds C, ds.length = 2 → gOr (n + 1) ds C → T__law_orders (gOr n) (EA C) (startA N__law_orders ds) := by
  rintro ds C - ⟨c, f, rfl, hc, hf, hn, hC⟩
  have one : (1 : Nat) ≤ sizeLine := by decide
  have base : (c = 0 ∨ f = 0) → (pRet (pLstO (pCons (pOp fAdd (pOp fMulS (pC (.str "c")) (pVar 0)) (pOp fMulS (pC (.str "f")) (pVar 1))) pNil))) (EA C) [some (.val (.int (c : Int))), some (.val (.int (f : Int))), none] := fun h => by
    refine ⟨mulOk_small (by decide) (by omega) (by omega), mulOk_small (by decide) (by omega) (by omega), ?_⟩
    have e : allO c f = [List.replicate c true ++ List.replicate f false] := by
      rcases h with rfl | rfl
      · rw [allO]; rfl
      · cases c with
        | zero => rw [allO]; rfl
        | succ c => rw [allO]; simp
    have key : ∀ p, C (.own p [.str (Txt.mul ("c" : Str) (c : Int) ++ Txt.mul ("f" : Str) (f : Int))]) := fun p => by
      have := hC p
      rw [e] at this
      rw [mul_c, mul_f, txt_append]
      exact this
    refine ⟨?_, one, key⟩
    rw [mul_c, mul_f, txt_len, txt_len, List.length_replicate, List.length_replicate]
    exact sl1000 (by omega)
  refine ⟨sh_int _, sh_int _, ifB (fun h => base (.inl ?_)) (fun h => ⟨sh_int _, sh_int _, ifB (fun h2 => base (.inr ?_)) (fun h2 => ?_)⟩)⟩
  · have h : ((c : Int) == 0) = true := h
    have : (c : Int) = 0 := by simpa using h
    omega
  · have h2 : ((f : Int) == 0) = true := h2
    have : (f : Int) = 0 := by simpa using h2
    omega
  · have hc0 : c ≠ 0 := fun z => by subst z; exact absurd h (by decide)
    have hf0 : f ≠ 0 := fun z => by subst z; exact absurd h2 (by decide)
    obtain ⟨c, rfl⟩ := Nat.exists_eq_succ_of_ne_zero hc0
    obtain ⟨f, rfl⟩ := Nat.exists_eq_succ_of_ne_zero hf0
    have hn : c + 1 + (f + 1) ≤ n + 1 := by
      rcases hn with h | h | h
      · omega
      · omega
      · exact h
    cases n with
    | zero => omega
    | succ n =>
      have e1 : (((c + 1 : Nat) : Int) - 1) = (c : Int) := by omega
      have e2 : (((f + 1 : Nat) : Int) - 1) = (f : Int) := by omega
      have l1 := allO_five (c := c) (f := f + 1) (by omega) (by omega)
      have l2 := allO_five (c := c + 1) (f := f) (by omega) (by omega)
      refine ⟨rfl, c, f + 1, ?_, by omega, by omega, .inr (.inr (by omega)), fun p1 => ?_⟩
      · show [D.int (((c + 1 : Nat) : Int) - 1), D.int ((f + 1 : Nat) : Int)] = _
        rw [e1]
      refine lc_mp (allO c (f + 1)) txD (fun o => txD (true :: o)) rfl (fun o ho K hK => ?_) (by omega) ?_
      · have hl := (mem_allO _ _ _ (Nat.le_refl _) o).mp ho
        have := cT_cF o
        refine ⟨by rw [txt_len]; show 1 + o.length ≤ sizeLine; exact sl1000 (by omega), ?_⟩
        rw [show (("c" : Str) ++ txt o) = txt (true :: o) from txt_append [true] o]
        exact hK _ rfl
      refine ⟨rfl, c + 1, f, ?_, by omega, by omega, .inr (.inr (by omega)), fun p2 => ?_⟩
      · show [D.int ((c + 1 : Nat) : Int), D.int (((f + 1 : Nat) : Int) - 1)] = _
        rw [e2]
      refine lc_mp (allO (c + 1) f) txD (fun o => txD (false :: o)) rfl (fun o ho K hK => ?_) (by omega) ?_
      · have hl := (mem_allO _ _ _ (Nat.le_refl _) o).mp ho
        have := cT_cF o
        refine ⟨by rw [txt_len]; show 1 + o.length ≤ sizeLine; exact sl1000 (by omega), ?_⟩
        rw [show (("f" : Str) ++ txt o) = txt (false :: o) from txt_append [false] o]
        exact hK _ rfl
      refine ⟨Nat.le_trans (show ((allO c (f + 1)).map fun o => txD (true :: o)).length + ((allO (c + 1) f).map fun o => txD (false :: o)).length ≤ 2000 by rw [List.length_map, List.length_map]; omega) (by decide), fun p => ?_⟩
      have := hC p
      rw [allO, List.map_append, List.map_map, List.map_map] at this
      exact this
def fitL (c f : Nat) (ws : List Wo) : List (List Bool) := (allO c f).filter fun o => ws.all fun w => hasW (aheadL 0 o) w
theorem mem_fit {cuts fills : List Int} {ws : List Wo} (hb : InB cuts.length fills.length ws) {o : List Bool} : o ∈ fitL cuts.length fills.length ws ↔ Has cuts fills o ws := by
  unfold fitL
  rw [List.mem_filter, mem_allO _ _ _ (Nat.le_refl _), List.all_eq_true]
  exact ⟨fun h => ⟨h.1.1, h.1.2, hb, h.2⟩, fun h => ⟨⟨h.t, h.f⟩, h.h⟩⟩
def AnyB (os : List (List Bool)) (u v : Wo) : Bool := os.any fun o => hasW (aheadL 0 o) u && hasW (aheadL 0 o) v
theorem least_nat {p : Nat → Prop} (h : ∃ n, p n) : ∃ n, p n ∧ ∀ m, m < n → ¬ p m := by
  obtain ⟨n, hn⟩ := h
  induction n using Nat.strongRecOn with
  | _ n ih =>
    by_cases q : ∃ m, m < n ∧ p m
    · obtain ⟨m, hm, hp⟩ := q
      exact ih m hm hp
    · exact ⟨n, hn, fun m hm hp => q ⟨m, hm, hp⟩⟩
theorem clash_first {ws : List Wo} (h : ¬ NoClash ws) : ∃ i j, CW ws i j := by
  have h1 : ∃ i : Nat, ∃ (j : Nat) (u v : Wo), i < j ∧ ws[i]? = some u ∧ ws[j]? = some v ∧ contr u v = true := by
    apply Classical.byContradiction
    intro q
    apply h
    intro u hu v hv
    cases e : contr u v with
    | false => rfl
    | true =>
      obtain ⟨i, hi, rfl⟩ := List.getElem_of_mem hu
      obtain ⟨j, hj, rfl⟩ := List.getElem_of_mem hv
      rcases Nat.lt_trichotomy i j with l | l | l
      · exact absurd ⟨i, j, _, _, l, List.getElem?_eq_getElem hi, List.getElem?_eq_getElem hj, e⟩ q
      · subst l
        rw [contr_self] at e; exact e.symm
      · exact absurd ⟨j, i, _, _, l, List.getElem?_eq_getElem hj, List.getElem?_eq_getElem hi, by rw [contr_symm]; exact e⟩ q
  obtain ⟨i, hi, mi⟩ := least_nat h1
  obtain ⟨j, hj, mj⟩ := least_nat hi
  obtain ⟨u, v, hij, hu, hv, hc⟩ := hj
  refine ⟨i, j, hij, ⟨u, v, hu, hv, hc⟩, fun a b u' v' hab ha hb hh => ?_⟩
  cases e : contr u' v' with
  | false => rfl
  | true =>
    rcases hh with hh | ⟨rfl, hh⟩
    · exact absurd ⟨b, u', v', hab, ha, hb, e⟩ (mi a hh)
    · exact absurd ⟨u', v', hab, ha, hb, e⟩ (mj b hh)
theorem any_contr {cuts fills : List Int} {ws : List Wo} (hb : InB cuts.length fills.length ws) : ∀ u ∈ ws, ∀ v ∈ ws, AnyB (allO cuts.length fills.length) u v = !contr u v := by
  intro u hu v hv
  have hb2 : InB cuts.length fills.length [u, v] := fun w hw => by
    simp only [List.mem_cons, List.not_mem_nil, or_false] at hw
    rcases hw with rfl | rfl
    · exact hb _ hu
    · exact hb _ hv
  have hi := both_iff hb2
  cases e : contr u v with
  | false =>
    obtain ⟨o, H⟩ := hi.mpr e
    show (allO cuts.length fills.length).any _ = true
    rw [List.any_eq_true]
    refine ⟨o, (mem_allO _ _ _ (Nat.le_refl _) o).mpr ⟨H.t, H.f⟩, ?_⟩
    rw [H.h u (by simp), H.h v (by simp)]; rfl
  | true =>
    cases q : AnyB (allO cuts.length fills.length) u v with
    | false => rfl
    | true =>
      have q : (allO cuts.length fills.length).any _ = true := q
      rw [List.any_eq_true] at q
      obtain ⟨o, ho, h⟩ := q
      rw [Bool.and_eq_true] at h
      obtain ⟨h1, h2⟩ := (mem_allO _ _ _ (Nat.le_refl _) o).mp ho
      have := hi.mp ⟨o, h1, h2, hb2, fun w hw => by
        simp only [List.mem_cons, List.not_mem_nil, or_false] at hw
        rcases hw with rfl | rfl
        · exact h.1
        · exact h.2⟩
      rw [e] at this; cases this
theorem sure_all : ∀ {A B : List Int} (k : Nat), A.length = B.length → ((sureL k A B).length = A.length ↔ A = B)
  | [], [], _, _ => ⟨fun _ => rfl, fun _ => rfl⟩
  | x :: A, y :: B, k, h => by
    have h : A.length = B.length := by simpa using h
    have ih := sure_all (k + 1) h
    have le := sureL_len A B (k + 1)
    rw [sureL]
    by_cases e : x = y
    · rw [if_pos e]
      show ((sureL (k + 1) A B).length + 1 = A.length + 1) ↔ _
      rw [e]
      constructor
      · intro q; rw [ih.mp (by omega)]
      · intro q; injection q with _ q; rw [ih.mpr q]
    · rw [if_neg e]
      constructor
      · intro q
        have q : (sureL (k + 1) A B).length = A.length + 1 := q
        omega
      · intro q; injection q with q _; exact absurd q e
  | [], _ :: _, _, h => by cases h
  | _ :: _, [], _, h => by cases h
def g_is_enough : FA := fun ds C => ∃ r a l d cuts e fills k ws, ds = [a, d, e, k] ∧ Sq a l ∧ l ≠ [] ∧ l.length ≤ 1000 ∧ BkA r d cuts e fills k ws ∧ C (.val (.bl (decide (loSt l cuts fills ws = hiSt l cuts fills ws))))
theorem rd_is_enough : ∀ ds C, ds.length = 4 → g_is_enough ds C → T_is_enough g_sure_postsA (EA C) (startA N_is_enough ds) := by
  rintro ds C - ⟨r, a, l, d, cuts, e, fills, k, ws, rfl, ha, hne, hl, hB, hC⟩
  have l1 : (loSt l cuts fills ws).length = l.length := stL_len _ _ _ _
  have l2 : (hiSt l cuts fills ws).length = l.length := stL_len _ _ _ _
  have key : (D.int (((dI (sureL 0 (loSt l cuts fills ws) (hiSt l cuts fills ws))).length : Nat) : Int)).eqv (.int ((l.length : Nat) : Int)) = decide (loSt l cuts fills ws = hiSt l cuts fills ws) := by
    rw [eqv_int, ints_len]
    have := sure_all 0 (l1.trans l2.symm)
    rw [l1] at this
    by_cases h : loSt l cuts fills ws = hiSt l cuts fills ws
    · rw [decide_eq_true h, this.mpr h]; simp
    · rw [decide_eq_false h]
      have h2 := fun q => h (this.mp q)
      have : ¬ ((((sureL 0 (loSt l cuts fills ws) (hiSt l cuts fills ws)).length : Nat) : Int) = ((l.length : Nat) : Int)) := fun q => h2 (by omega)
      simpa using this
  refine ⟨rfl, r, a, l, d, cuts, e, fills, k, ws, rfl, ha, hne, hl, hB, fun p => ?_⟩
  rw [← key] at hC
  rcases ha with rfl | rfl
  · refine ⟨sh_int _, sh_int _, ?_⟩
    show C (.val (.bl ((D.int (((dI (sureL 0 (loSt l cuts fills ws) (hiSt l cuts fills ws))).length : Nat) : Int)).eqv (.int (((dI l).length : Nat) : Int)))))
    rw [ints_len l]; exact hC
  · refine ⟨sh_int _, sh_int _, ?_⟩
    show C (.val (.bl ((D.int (((dI (sureL 0 (loSt l cuts fills ws) (hiSt l cuts fills ws))).length : Nat) : Int)).eqv (.int (((dI l).length : Nat) : Int)))))
    rw [ints_len l]; exact hC
def gx_is_enough : FX := gx_sure_posts
theorem rdx_is_enough {g : FA} : ∀ ds C, ds.length = 4 → gx_is_enough ds C → TX_is_enough g gx_sure_posts E0 (EX C) (startA N_is_enough ds) := by
  rintro ds C - ⟨a, d, e, k, rfl, hC⟩
  exact .inr ⟨rfl, a, d, e, k, rfl, hC⟩
def g__law_told : FA := fun ds C => ∃ r a l d cuts e fills k ws, ds = [a, d, e, k] ∧ WsF r k ws ∧ ws.length ≤ 900 ∧ ((Sq a l ∧ l ≠ [] ∧ l.length ≤ 1000 ∧ BkA r d cuts e fills k ws ∧ C (.val (.bl (decide (loSt l cuts fills ws = hiSt l cuts fills ws))))) ∨ ∃ i j, CW ws i j ∧ C (.val (.tup [.str "clash", plD i j])))
theorem rd__law_told : ∀ ds C, ds.length = 4 → g__law_told ds C → T__law_told g_is_enough gx_is_enough (EA C) (startA N__law_told ds) := by
  rintro ds C - ⟨r, a, l, d, cuts, e, fills, k, ws, rfl, hk, hwl, h⟩
  have two : (2 : Nat) ≤ sizeLine := by decide
  have b1 : (!([("Clash" : Str)].any (isaX "Clash"))) = false := by decide +kernel
  have b2 : ([("Against" : Str), ("Unlike" : Str)].any (isaX "Clash")) = false := by decide +kernel
  have b3 : (!([("ValueError" : Str)].any (isaX "Clash"))) = false := by decide +kernel
  rcases h with ⟨ha, hne, hl, hB, hC⟩ | ⟨i, j, hF, hC⟩
  · exact ⟨two, rfl, rfl, .inl ⟨rfl, r, a, l, d, cuts, e, fills, k, ws, rfl, ha, hne, hl, hB, hC⟩⟩
  · refine ⟨two, rfl, rfl, .inr ⟨rfl, a, d, e, k, rfl, r, ws, i, j, hk, by omega, hF, by simp, ?_⟩⟩
    exact ⟨by simp, ifF b1 ⟨by simp, ifF b2 ⟨by simp, ifF b3 ⟨by simp, rfl, two, hC⟩⟩⟩⟩
def g__law_clash : FA := fun ds C => ∃ os ws i j, ds = [.lst (os.map txD), .lst (wordsD ws)] ∧ os.length ≤ 900 ∧ ws.length ≤ 900 ∧ (∀ o ∈ os, o.length ≤ 900 ∧ InB (cT o) (cF o) ws) ∧ (∀ u ∈ ws, ∀ v ∈ ws, AnyB os u v = !contr u v) ∧ CW ws i j ∧ C (.val (plD i j))
theorem rd__law_clash : ∀ ds C, ds.length = 2 → g__law_clash ds C → T__law_clash g__law_has (EA C) (startA N__law_clash ds) := by
  rintro ds C - ⟨os, ws, i0, j0, rfl, hlo, hl, hob, hany, hF, hC⟩
  have hC' : ∀ i j, CW ws i j → C (.val (plD i j)) := fun i j h => by
    obtain ⟨rfl, rfl⟩ := hF.one h
    exact hC
  have l0 : (wordsD ws).length = ws.length := wordsD_len ws
  refine ⟨by rw [l0]; omega, by rw [l0]; omega, ?_⟩
  refine fr_rg ws.length (fun i ρ => PairsFree ws i 0 ∧ ∃ w2 w3, ρ = [some (.val (.lst (os.map txD))), some (.val (.lst (wordsD ws))), w2, w3, none]) (by rw [l0, Int.toNat_natCast]) ⟨fun a b u v _ _ _ h => by omega, _, _, rfl⟩ (fun i ρ K hi hI hK => ?_) (fun ρ hI => ?_)
  · obtain ⟨hp, w2, w3, rfl⟩ := hI
    refine ⟨⟨by omega, by omega, by rw [l0]; omega, by rw [l0]; omega⟩, ?_⟩
    refine fr_rgo (ws.length - (i + 1)) (fun t ρ => PairsFree ws i (i + 1 + t) ∧ ∃ w3, ρ = [some (.val (.lst (os.map txD))), some (.val (.lst (wordsD ws))), some (.val (.int (i : Int))), w3, none]) (by rw [l0]; omega) ⟨fun a b u v hab h1 h2 h => hp a b u v hab h1 h2 (by omega), _, rfl⟩ (fun t ρ K2 ht hI hK2 => ?_) (fun ρ hI => ?_)
    · obtain ⟨hp2, w3, rfl⟩ := hI
      have hj : i + 1 + t < ws.length := by omega
      have ej : ((i : Int) + 1 + (t : Int)) = ((i + 1 + t : Nat) : Int) := by omega
      rw [ej]
      have hi' := List.getElem?_eq_getElem hi
      have hj' := List.getElem?_eq_getElem hj
      refine lc_mp os txD (fun o => .bl (hasW (aheadL 0 o) ws[i] && hasW (aheadL 0 o) ws[i + 1 + t])) rfl (fun o ho K3 hK3 => ?_) (by omega) ?_
      · have g1 : atI (wordsD ws) ((i : Nat) : Int) = some (wordD ws[i]) := atI_nat (by unfold wordsD; rw [List.getElem?_map, hi']; rfl)
        have g2 : atI (wordsD ws) ((i + 1 + t : Nat) : Int) = some (wordD ws[i + 1 + t]) := atI_nat (by unfold wordsD; rw [List.getElem?_map, hj']; rfl)
        obtain ⟨h1, h2⟩ := hob o ho
        have hb1 := h2 _ (List.getElem_mem hi)
        have hb2 := h2 _ (List.getElem_mem hj)
        refine ⟨_, g1, rfl, o, ws[i], rfl, hb1.1, hb1.2, h1, ?_⟩
        cases q : hasW (aheadL 0 o) ws[i] with
        | true => rw [q, Bool.true_and] at hK3; exact ⟨_, g2, rfl, o, ws[i + 1 + t], rfl, hb2.1, hb2.2, h1, hK3 _ rfl⟩
        | false => rw [q, Bool.false_and] at hK3; exact hK3 _ rfl
      · refine ⟨os.map fun o => hasW (aheadL 0 o) ws[i] && hasW (aheadL 0 o) ws[i + 1 + t], by rw [List.map_map]; rfl, ?_⟩
        have e : (os.map fun o => hasW (aheadL 0 o) ws[i] && hasW (aheadL 0 o) ws[i + 1 + t]).any id = !contr ws[i] ws[i + 1 + t] := by
          rw [← hany ws[i] (List.getElem_mem hi) ws[i + 1 + t] (List.getElem_mem hj), List.any_map]; rfl
        rw [e]
        cases h : contr ws[i] ws[i + 1 + t] with
        | true => exact ⟨by show (2 : Nat) ≤ sizeLine; decide, hC' _ _ ⟨by omega, ⟨_, _, hi', hj', h⟩, hp2⟩⟩
        | false =>
          refine hK2 _ ⟨fun a b u v hab h1 h2 hh => ?_, _, rfl⟩
          by_cases q : a = i ∧ b = i + 1 + t
          · obtain ⟨rfl, rfl⟩ := q
            rw [hi'] at h1
            rw [hj'] at h2
            cases h1; cases h2; exact h
          · exact hp2 a b u v hab h1 h2 (by omega)
    · obtain ⟨hp2, w3, rfl⟩ := hI
      refine hK _ ⟨fun a b u v hab h1 h2 hh => hp2 a b u v hab h1 h2 ?_, _, _, rfl⟩
      have : b < ws.length := (List.getElem?_eq_some_iff.mp h2).1
      omega
  · obtain ⟨hp, w2, w3, rfl⟩ := hI
    exact absurd (fun a b u v hab h1 h2 => hp a b u v hab h1 h2 (.inl (List.getElem?_eq_some_iff.mp h1).1)) hF.not
theorem canLay_dunes : ∀ ls : List (List Int), PyData.canLayAll0 (toPys (ls.map tD)) = true
  | [] => rfl
  | l :: ls => by
    show (PyData.canLayAll0 (toPys (dI l)) && PyData.canLayAll0 (toPys (ls.map tD))) = true
    rw [canLay_dunes ls, canLay_ints]; rfl
theorem depth_dunes : ∀ ls : List (List Int), PyData.depthAll (toPys (ls.map tD)) ≤ 2
  | [] => by decide
  | l :: ls => by
    have := depth_dunes ls
    show max (PyData.depthAll (toPys (dI l)) + 1) (PyData.depthAll (toPys (ls.map tD))) ≤ 2
    rw [depth_dI]; omega
theorem sh_dunes (ls : List (List Int)) : (D.lst (ls.map tD)).sh := by
  show (PyData.canLayAll0 (toPys (ls.map tD)) && decide (PyData.depthAll (toPys (ls.map tD)) + 1 ≤ 64)) = true
  rw [canLay_dunes]
  have := depth_dunes ls
  rw [decide_eq_true (by omega)]; rfl
theorem eqv_dunes : ∀ a b : List (List Int), PyData.eqvAll (toPys (a.map tD)) (toPys (b.map tD)) = decide (a = b)
  | [], [] => rfl
  | [], _ :: _ => rfl
  | _ :: _, [] => rfl
  | x :: a, y :: b => by
    show ((D.tup (dI x)).eqv (.tup (dI y)) && PyData.eqvAll (toPys (a.map tD)) (toPys (b.map tD))) = _
    rw [eqv_tupI, eqv_dunes a b]
    by_cases h1 : x = y
    · by_cases h2 : a = b
      · rw [h1, h2]; simp
      · rw [decide_eq_false h2, Bool.and_false, decide_eq_false (fun q => by injection q with _ q; exact h2 q)]
    · rw [decide_eq_false h1, Bool.false_and, decide_eq_false (fun q => by injection q with q _; exact h1 q)]
theorem same_dunes {f : List Bool → List Int} {x : List Bool} {r : List (List Bool)} {b : Bool} (h : (∀ o ∈ r, f o = f x) ↔ b = true) : decide ((x :: r).map f = List.replicate (r.length + 1) (f x)) = b := by
  have e : ((x :: r).map f = List.replicate (r.length + 1) (f x)) ↔ b = true := by
    rw [← h, List.map_cons, List.replicate_succ]
    constructor
    · intro q o ho
      injection q with _ q
      exact (List.eq_replicate_iff.mp q).2 _ (List.mem_map.mpr ⟨o, ho, rfl⟩)
    · intro q
      congr 1
      refine List.eq_replicate_iff.mpr ⟨List.length_map _, fun y hy => ?_⟩
      obtain ⟨o, ho, rfl⟩ := List.mem_map.mp hy
      exact q o ho
  cases b with
  | true => exact decide_eq_true (e.mpr rfl)
  | false => exact decide_eq_false fun q => by have := e.mp q; cases this
theorem rep_flat (n : Nat) (d : D) : (List.replicate n [d]).flatten = List.replicate n d := by
  induction n with
  | zero => rfl
  | succ n ih => rw [List.replicate_succ, List.flatten_cons, ih]; rfl
section
abbrev vL' (l : List Int) : Option Cell := some (.val (.lst (dI l)))
abbrev vWs (ws : List Wo) : Option Cell := some (.val (.lst (wordsD ws)))
abbrev vXt (o : List Bool) : Option Cell := some (.val (.str (txt o)))
abbrev vOs (os : List (List Bool)) : Option Cell := some (.val (.lst (os.map txD)))
abbrev vDu (ls : List (List Int)) : Option Cell := some (.val (.lst (ls.map tD)))
variable {P : PEnds} {a0 p7 : Addr} {zs : List D} {n : Nat} {l cuts fills : List Int} {ws : List Wo} {o : List Bool} {due : D}
abbrev rho (w0 : Option Cell) (w1 : Option Cell) (w2 : Option Cell) (w3 : Option Cell) (w4 : Option Cell) (w5 : Option Cell) (w6 : Option Cell) (w7 : Option Cell) (w10 : Option Cell) (w11 : Option Cell) (w12 : Option Cell) (w13 : Option Cell) (w14 : Option Cell) : Ro := [w0, w1, w2, w3, w4, w5, w6, w7, none, none, w10, w11, w12, w13, w14]
variable {w0 w1 w2 w3 w4 w5 w6 w7 w10 w11 w12 w13 w14 : Option Cell}
theorem t1 (hB : Bx n zs) (hn : n ≤ 100000000) (hP : ∀ l cuts fills zs, l ≠ [] → l.length ≤ 6 → cuts.length ≤ 4 → fills.length ≤ 4 → Pos0 cuts → Pos0 fills → Bx (n + 7000) zs → P.nx (rho (vo a0 zs) (vT l) (vL' cuts) (vL' fills) w4 w5 w6 w7 w10 w11 w12 w13 w14)) : T__law_right_1 g__law_dune g__law_books P (rho (vo a0 zs) w1 w2 w3 w4 w5 w6 w7 w10 w11 w12 w13 w14) := by
  refine ⟨zs, rfl, rfl, n, 6, by omega, hB, rfl, by decide, by decide, fun l zs1 hne hl hr hB1 => ?_⟩
  refine ⟨zs1, rfl, rfl, _, 4, by omega, hB1, rfl, by decide, fun cuts fills zs2 h1 h2 h3 h4 h5 => ⟨by show (2 : Nat) ≤ sizeLine; decide, rfl, rfl, rfl, rfl, hP l cuts fills zs2 hne (by omega) h1 h2 h3 h4 h5⟩⟩
theorem t2 (hB : Bx n zs) (hn : n ≤ 100000000) (hc : cuts.length ≤ 4) (hf : fills.length ≤ 4) (hP : ∀ o zs, cT o = cuts.length → cF o = fills.length → Bx (n + 500) zs → P.nx (rho (vo a0 zs) w1 (vL' cuts) (vL' fills) (vOs (allO cuts.length fills.length)) (vXt o) w6 w7 w10 w11 w12 w13 w14)) : T__law_right_2 (gOr 8) g__law_order P (rho (vo a0 zs) w1 (vL' cuts) (vL' fills) w4 w5 w6 w7 w10 w11 w12 w13 w14) := by
  have e : [D.int (((dI cuts).length : Nat) : Int), D.int (((dI fills).length : Nat) : Int)] = [.int ((cuts.length : Nat) : Int), .int ((fills.length : Nat) : Int)] := by rw [ints_len, ints_len]
  refine ⟨rfl, cuts.length, fills.length, e, by omega, by omega, .inr (.inr (by show cuts.length + fills.length ≤ 8; omega)), fun p => ?_⟩
  exact ⟨zs, rfl, rfl, n, cuts.length, fills.length, by omega, hB, e, by omega, by omega, fun o zs1 h1 h2 hB1 => hP o zs1 h1 h2 hB1⟩
theorem t31 {size : Nat} (hs : size ≤ 6) (hB : Bx n zs) (hn : n ≤ 100000000) (hol : o.length ≤ 20) (hP : ∀ p ws zs, ws.length ≤ 6 → InB (cT o) (cF o) ws → Bx (n + 2000) zs → P.nx (rho (vo a0 zs) w1 w2 w3 w4 (vXt o) (vI (size : Int)) (vo p (wordsD ws)) w10 w11 w12 w13 w14)) : T__law_right_3_1 g__law_words P (rho (vo a0 zs) w1 w2 w3 w4 (vXt o) (vI (size : Int)) w7 w10 w11 w12 w13 w14) :=
  ⟨zs, rfl, rfl, n, o, size, by omega, hB, rfl, by omega, by omega, fun p ws zs1 hl hi hB1 => hP p ws zs1 (by omega) hi hB1⟩
theorem t32 (hb : InB cuts.length fills.length ws) (hw : ws.length ≤ 6) (hc : cuts.length ≤ 4) (hf : fills.length ≤ 4) (hP : P.nx (rho w0 w1 w2 w3 (vOs (allO cuts.length fills.length)) w5 w6 (vWs ws) (vOs (fitL cuts.length fills.length ws)) w11 w12 w13 w14)) : T__law_right_3_2 g__law_has P (rho w0 w1 w2 w3 (vOs (allO cuts.length fills.length)) w5 w6 (vo p7 (wordsD ws)) w10 w11 w12 w13 w14) := by
  have lo := allO_five (c := cuts.length) (f := fills.length) (by omega) (by omega)
  have hmem : ∀ o ∈ allO cuts.length fills.length, cT o = cuts.length ∧ cF o = fills.length := fun o ho => (mem_allO _ _ _ (Nat.le_refl _) o).mp ho
  have hne : allO cuts.length fills.length ≠ [] := fun q => by
    have := (mem_allO _ cuts.length fills.length (Nat.le_refl _) (List.replicate cuts.length true ++ List.replicate fills.length false)).mpr ⟨by rw [cT_append, cT_rep]; have : ∀ k, cT (List.replicate k false) = 0 := (fun k => by induction k with | zero => rfl | succ k ih => rw [List.replicate_succ]; exact ih); rw [this]; rfl, by rw [cF_append, cF_rep]; have : ∀ k, cF (List.replicate k false) = k := (fun k => by induction k with | zero => rfl | succ k ih => rw [List.replicate_succ]; show cF (List.replicate k false) + 1 = k + 1; rw [ih]); rw [this]; omega⟩
    rw [q] at this; simp at this
  have hP' : ∀ os, os = allO cuts.length fills.length → P.nx (rho w0 w1 w2 w3 (vOs os) w5 w6 (vWs ws) (vOs (os.filter fun o => ws.all fun w => hasW (aheadL 0 o) w)) w11 w12 w13 w14) := fun os e => by subst e; exact hP
  generalize allO cuts.length fills.length = os at lo hmem hne hP'
  refine lcW_inv (fun ds acc ρ => ∃ dn rest w7, dn ++ rest = os ∧ ds = rest.map txD ∧ acc = (dn.filter fun o => ws.all fun w => hasW (aheadL 0 o) w).map txD ∧ (w7 = vo p7 (wordsD ws) ∨ w7 = vWs ws) ∧ (dn = [] ∨ w7 = vWs ws) ∧ ρ = (rho w0 w1 w2 w3 (vOs os) w5 w6 w7 w10 w11 w12 w13 w14)) (fun d r acc ρ K hK hI => ?_) (fun acc ρ hI => ?_) (os.map txD) [] _ ⟨[], os, _, rfl, rfl, rfl, .inl rfl, .inl rfl, rfl⟩
  · obtain ⟨dn, rest, w7, e1, e2, rfl, h7, _, rfl⟩ := hI
    match rest, e2 with
    | o :: rest, e2 =>
      rw [List.map_cons] at e2
      injection e2 with e2 e3
      subst e2 e3
      have ho : o ∈ os := by rw [← e1]; simp
      obtain ⟨h1, h2⟩ := hmem o ho
      have hol := cT_cF o
      have hdn : dn.length ≤ 512 := by
        have := congrArg List.length e1
        rw [List.length_append] at this
        omega
      have hfl := List.length_filter_le (fun o => ws.all fun w => hasW (aheadL 0 o) w) dn
      have sml : ((dn.filter fun o => ws.all fun w => hasW (aheadL 0 o) w).map txD).length < sizeLine := by rw [List.length_map]; exact small1000 (by omega)
      have nx : ∀ acc, acc = ((dn ++ [o]).filter fun o => ws.all fun w => hasW (aheadL 0 o) w).map txD → K acc (rho w0 w1 w2 w3 (vOs os) w5 w6 (vWs ws) w10 w11 w12 w13 w14) := fun acc e => hK _ _ ⟨dn ++ [o], rest, _, by rw [List.append_assoc]; exact e1, rfl, e, .inr rfl, .inr rfl, rfl⟩
      rw [List.filter_append, List.map_append] at nx
      have body : ∀ (Q : List D → Ro → Prop), Q (ws.map fun w => .bl (hasW (aheadL 0 o) w)) [w0, w1, w2, w3, vOs os, w5, w6, vWs ws, some (.val (txD o)), none, w10, w11, w12, w13, w14] → lcW [9] (hName 9) pYes (pFrz (pCallA 2 g__law_has (pCons (pVar 8) (pCons (pVar 9) pNil)))) Q (wordsD ws) [] [w0, w1, w2, w3, vOs os, w5, w6, vWs ws, some (.val (txD o)), none, w10, w11, w12, w13, w14] := by
        intro Q hQ
        exact lc_mp ws wordD (fun w => .bl (hasW (aheadL 0 o) w)) rfl (fun w hw2 K2 hK2 => ⟨rfl, o, w, rfl, by rw [h1]; exact (hb w hw2).1, by rw [h2]; exact (hb w hw2).2, by omega, hK2 _ rfl⟩) (by omega) hQ
      have fin : ∃ bs : List Bool, (ws.map fun w => D.bl (hasW (aheadL 0 o) w)) = bs.map D.bl ∧ (if (bs.all id) = true then (((dn.filter fun o => ws.all fun w => hasW (aheadL 0 o) w).map txD).length < sizeLine ∧ K (((dn.filter fun o => ws.all fun w => hasW (aheadL 0 o) w).map txD) ++ [txD o]) (rho w0 w1 w2 w3 (vOs os) w5 w6 (vWs ws) w10 w11 w12 w13 w14)) else K ((dn.filter fun o => ws.all fun w => hasW (aheadL 0 o) w).map txD) (rho w0 w1 w2 w3 (vOs os) w5 w6 (vWs ws) w10 w11 w12 w13 w14)) := by
        refine ⟨ws.map fun w => hasW (aheadL 0 o) w, by rw [List.map_map]; rfl, ?_⟩
        rw [List.all_map]
        show (if (ws.all fun w => hasW (aheadL 0 o) w) = true then _ else _)
        cases q : (ws.all fun w => hasW (aheadL 0 o) w) with
        | true => exact ⟨sml, nx _ (by rw [List.filter_cons_of_pos (p := fun o => ws.all fun w => hasW (aheadL 0 o) w) q]; rfl)⟩
        | false => exact nx _ (by rw [List.filter_cons_of_neg (p := fun o => ws.all fun w => hasW (aheadL 0 o) w) (by rw [q]; simp)]; simp)
      rcases h7 with rfl | rfl
      · exact body _ fin
      · exact body _ fin
  · obtain ⟨dn, rest, w7, e1, e2, rfl, h7, h8, rfl⟩ := hI
    have : rest = [] := by cases rest with | nil => rfl | cons _ _ => cases e2
    subst this
    rw [List.append_nil] at e1
    subst e1
    rcases h8 with h8 | rfl
    · exact absurd h8 hne
    · exact hP' dn rfl
theorem t33 {fit : List (List Bool)} (hfit : ∀ o ∈ fit, cT o = cuts.length ∧ cF o = fills.length) (hfl : fit.length ≤ 512) (hp : Pos0 cuts) (hq : Pos0 fills) (hne : l ≠ []) (hl : l.length ≤ 6) (hc : cuts.length ≤ 4) (hf : fills.length ≤ 4) (hP : P.nx (rho w0 (vT l) (vL' cuts) (vL' fills) w4 w5 w6 w7 (vOs fit) (vDu (fit.map (stL l cuts fills))) w12 w13 w14)) : T__law_right_3_3 g__law_behind g__law_almanac P (rho w0 (vT l) (vL' cuts) (vL' fills) w4 w5 w6 w7 (vOs fit) w11 w12 w13 w14) := by
  refine lc_mp fit txD (fun o => tD (stL l cuts fills o)) rfl (fun o ho K hK => ?_) (by omega) ?_
  · have h1 := (hfit o ho).1
    have h2 := (hfit o ho).2
    have h3 := cT_cF o
    exact ⟨rfl, _, cuts, _, fills, o, rfl, .inr rfl, .inr rfl, by omega, by omega, by omega, fun p => ⟨rfl, _, l, _, almL cuts fills 0 0 o, rfl, .inl rfl, .inl rfl, hne, by omega, almL_nonneg hp hq _ 0 0, hK _ rfl⟩⟩
  · have e : (fit.map fun o => tD (stL l cuts fills o)) = (fit.map (stL l cuts fills)).map tD := by rw [List.map_map]; rfl
    rw [e]; exact hP
theorem sh_fit {fit : List (List Bool)} (h : ∀ o ∈ fit, o.length ≤ 800) : (D.lst (fit.map txD)).sh := by
  refine gd_sh (k := 900) (n := 1) (by decide) (by decide) fun d hd => ?_
  obtain ⟨o, ho, rfl⟩ := List.mem_map.mp hd
  refine ⟨fun c hc => ?_, ?_⟩
  · have hc : c ∈ o.map sg := by simpa [txt] using hc
    obtain ⟨b, _, rfl⟩ := List.mem_map.mp hc
    cases b <;> decide
  · have := txt_len o
    have := h o ho
    unfold Str.length at *
    omega
theorem t34a {x : List Bool} {r : List (List Bool)} {f : List Bool → List Int} {b : Bool} (hx : ∀ o ∈ x :: r, o.length ≤ 800) (hr : r.length + 1 ≤ 512) (hb : (∀ o ∈ r, f o = f x) ↔ b = true) (hP : P.nx (rho w0 w1 w2 w3 w4 w5 w6 w7 (vOs (x :: r)) (vDu ((x :: r).map f)) (some (.val (.bl b))) w13 w14)) : T__law_right_3_4 g__law_clash P (rho w0 w1 w2 w3 w4 w5 w6 w7 (vOs (x :: r)) (vDu ((x :: r).map f)) w12 w13 w14) := by
  refine ⟨by show (0 : Nat) ≤ sizeLine; decide, sh_fit hx, sh_fit (fit := []) (fun o h => by simp at h), ifT ?_ ?_⟩
  · show (!(D.lst (txD x :: r.map txD)).eqv (.lst [])) = true
    unfold D.eqv
    rw [toPy, toPy, toPys, toPys, PyData.eqv, PyData.eqvAll]; rfl
  have e1 : cutD (((x :: r).map f).map tD) none (some 1) = [tD (f x)] := (cutD_to (xs := ((x :: r).map f).map tD) (k := 1)).trans rfl
  have ln : ((((x :: r).map f).map tD).length : Nat) = r.length + 1 := by rw [List.length_map, List.length_map]; rfl
  have key : ∀ xs, xs = [tD (f x)] → fRep (.lst xs) (.int (((((x :: r).map f).map tD).length : Nat) : Int)) fun z => (D.lst (((x :: r).map f).map tD)).sh ∧ z.sh ∧ P.nx (rho w0 w1 w2 w3 w4 w5 w6 w7 (vOs (x :: r)) (vDu ((x :: r).map f)) (some (.val (.bl ((D.lst (((x :: r).map f).map tD)).eqv z)))) w13 w14) := by
    intro xs e
    subst e
    rw [ln]
    refine ⟨by omega, by omega, by show (1 : Nat) ≤ 1000; decide, ?_⟩
    have e2 : (List.replicate (((r.length + 1 : Nat) : Int)).toNat [tD (f x)]).flatten = (List.replicate (r.length + 1) (f x)).map tD := by
      rw [Int.toNat_natCast, rep_flat, List.map_replicate]
    rw [e2]
    refine ⟨sh_dunes _, sh_dunes _, ?_⟩
    have e3 : (D.lst (((x :: r).map f).map tD)).eqv (.lst ((List.replicate (r.length + 1) (f x)).map tD)) = b := (eqv_dunes _ _).trans (same_dunes hb)
    rw [e3]; exact hP
  exact key _ e1
theorem t34b {os : List (List Bool)} {i j : Nat} (hlo : os.length ≤ 900) (hwl : ws.length ≤ 900) (hob : ∀ o ∈ os, o.length ≤ 900 ∧ InB (cT o) (cF o) ws) (hany : ∀ u ∈ ws, ∀ v ∈ ws, AnyB os u v = !contr u v) (hF : CW ws i j) (hP : P.nx (rho w0 w1 w2 w3 (vOs os) w5 w6 (vWs ws) (vOs []) w11 (some (.val (.tup [.str "clash", plD i j]))) w13 w14)) : T__law_right_3_4 g__law_clash P (rho w0 w1 w2 w3 (vOs os) w5 w6 (vWs ws) (vOs []) w11 w12 w13 w14) := by
  refine ⟨by show (0 : Nat) ≤ sizeLine; decide, sh_fit (fit := []) (fun o h => by simp at h), sh_fit (fit := []) (fun o h => by simp at h), ifF (by decide +kernel) ?_⟩
  exact ⟨rfl, os, ws, i, j, rfl, hlo, hwl, hob, hany, hF, by show (2 : Nat) ≤ sizeLine; decide, hP⟩
theorem t35 (hw : ws.length ≤ 6) (hP : P.nx (rho w0 w1 w2 w3 w4 w5 w6 (vWs ws) w10 w11 w12 (some (.val (.lst (wordsR ws)))) w14)) : T__law_right_3_5 P (rho w0 w1 w2 w3 w4 w5 w6 (vWs ws) w10 w11 w12 w13 w14) :=
  lc_mp ws wordD wordR rfl (fun w _ K hK => hK _ rfl) (by omega) hP
theorem t36 (hT : ∀ (a d k : D) (r : Bool) (C : Cell → Prop), Sq a l → Sq d cuts → WsF r k ws → C (.val due) → g__law_told [a, d, .lst (dI fills), k] C) (hP : P.nx (rho w0 (vT l) (vL' cuts) (vL' fills) w4 w5 w6 (vWs ws) w10 w11 w12 (some (.val (.lst (wordsR ws)))) (some (.val (.lst [due, due]))))) : T__law_right_3_6 g__law_told P (rho w0 (vT l) (vL' cuts) (vL' fills) w4 w5 w6 (vWs ws) w10 w11 w12 (some (.val (.lst (wordsR ws)))) w14) :=
  ⟨rfl, hT _ _ _ false _ (.inl rfl) (.inr rfl) (.inl rfl) ⟨rfl, hT _ _ _ true _ (.inr rfl) (.inl rfl) (.inl rfl) ⟨by show (2 : Nat) ≤ sizeLine; decide, hP⟩⟩⟩
theorem t37 (hd : okN 2 due) (hP : P.nx (rho w0 w1 w2 w3 w4 w5 w6 w7 w10 w11 (some (.val due)) w13 (some (.val (.lst [due, due]))))) : T__law_right_3_7 (gS 4) P (rho w0 w1 w2 w3 w4 w5 w6 w7 w10 w11 (some (.val due)) w13 (some (.val (.lst [due, due])))) :=
  ⟨by show (2 : Nat) ≤ sizeLine; decide, rfl, _, rfl, okN_two hd hd, hP⟩
end
theorem okN_pl1 (i j : Nat) : okN 1 (plD i j) := ⟨by show (2 : Nat) ≤ 1000; decide, fun x hx => by
  simp only [List.mem_cons, List.not_mem_nil, or_false] at hx
  rcases hx with rfl | rfl <;> trivial⟩
theorem okN_clash (i j : Nat) : okN 2 (.tup [.str "clash", plD i j]) := ⟨by show (2 : Nat) ≤ 1000; decide, fun x hx => by
  simp only [List.mem_cons, List.not_mem_nil, or_false] at hx
  rcases hx with rfl | rfl
  · show (D.str "clash").sh
    unfold D.sh; decide +kernel
  · exact okN_pl1 i j⟩
abbrev g__law_right := gRight
theorem rd__law_right : ∀ a xs ds C, ds.length + 1 = 1 → g__law_right xs ds C → T__law_right (gS 4) g__law_behind g__law_dune g__law_books (gOr 8) g__law_almanac g__law_order g__law_has g__law_words g__law_told g__law_clash (EB a C) (startB N__law_right a xs ds) := by
  rintro a xs ds C - ⟨m, hm, hB, rfl, hC⟩
  refine t1 (w1 := none) (w2 := none) (w3 := none) (w4 := none) (w5 := none) (w6 := none) (w7 := none) (w10 := none) (w11 := none) (w12 := none) (w13 := none) (w14 := none) hB (by omega) fun l cuts fills zs hne hl hc hf hp hq hB => ?_
  refine t2 hB (by omega) hc hf fun o zs ht hff hB => ?_
  have hol : o.length ≤ 20 := by have := cT_cF o; omega
  refine ⟨by show (3 : Nat) ≤ sizeLine; decide, ?_⟩
  refine fr_mp [0, 3, 6] (fun (k : Nat) => D.int (k : Int)) (fun r ρ => (∀ x ∈ r, x ≤ 6) ∧ r.length ≤ 3 ∧ ∃ zs w6 w7 w10 w11 w12 w13 w14, Bx (m + 7500 + 2000 * (3 - r.length)) zs ∧ ρ = rho (vo a zs) (vT l) (vL' cuts) (vL' fills) (vOs (allO cuts.length fills.length)) (vXt o) w6 w7 w10 w11 w12 w13 w14) rfl ⟨fun x hx => by simp only [List.mem_cons, List.not_mem_nil, or_false] at hx; omega, by decide, zs, _, _, _, _, _, _, _, hB.mono (by show _ ≤ m + 7500 + 2000 * (3 - 3); omega), rfl⟩ (fun size r ρ K hI hK => ?_) (fun ρ hI => ?_)
  · obtain ⟨hr, hrl, zs, w6, w7, w10, w11, w12, w13, w14, hB, rfl⟩ := hI
    have hrl : r.length + 1 ≤ 3 := hrl
    have hB : Bx (m + 7500 + 2000 * (3 - (r.length + 1))) zs := hB
    refine t31 (hr size (by simp)) hB (by omega) hol fun p ws zs hw hi hB => ?_
    rw [ht, hff] at hi
    refine t32 hi hw hc hf ?_
    have hfit : ∀ o ∈ fitL cuts.length fills.length ws, Has cuts fills o ws := fun o ho => (mem_fit hi).mp ho
    have hfl : (fitL cuts.length fills.length ws).length ≤ 512 := Nat.le_trans (List.length_filter_le _ _) (allO_five (by omega) (by omega))
    refine t33 (fun o ho => ⟨(hfit o ho).t, (hfit o ho).f⟩) hfl hp hq hne hl hc hf ?_
    have done : ∀ w6 w7 w10 w11 w12 w13 w14, K (rho (vo a zs) (vT l) (vL' cuts) (vL' fills) (vOs (allO cuts.length fills.length)) (vXt o) w6 w7 w10 w11 w12 w13 w14) := fun w6 w7 w10 w11 w12 w13 w14 => hK _ ⟨fun x hx => hr x (by simp [hx]), by omega, zs, w6, w7, w10, w11, w12, w13, w14, hB.mono (by omega), rfl⟩
    by_cases hn : NoClash ws
    · have H := noclash_has hi hn
      have hlow := (mem_fit hi).mpr H
      have htop := (mem_fit hi).mpr H.top
      have hb : (∀ o ∈ fitL cuts.length fills.length ws, ∀ o' ∈ fitL cuts.length fills.length ws, stL l cuts fills o = stL l cuts fills o') ↔ decide (loSt l cuts fills ws = hiSt l cuts fills ws) = true := by
        rw [decide_eq_true_iff]
        constructor
        · intro q; exact q _ hlow _ htop
        · intro q o1 h1 o2 h2
          have g := fun o ho => Lq.antisymm (((hfit o ho).hi hp hq).trans (by rw [← q]; exact Lq.refl _)) ((hfit o ho).lo (l := l) hp hq)
          rw [g o1 h1, g o2 h2]
      generalize fitL cuts.length fills.length ws = fit at hfit hfl hlow htop hb
      match fit with
      | [] => simp at hlow
      | x :: r' =>
        have hx : ∀ o ∈ x :: r', o.length ≤ 800 := fun o ho => by
          have h1 := (hfit o ho).t
          have h2 := (hfit o ho).f
          have := cT_cF o
          omega
        have hb2 : (∀ o ∈ r', stL l cuts fills o = stL l cuts fills x) ↔ decide (loSt l cuts fills ws = hiSt l cuts fills ws) = true := by
          rw [← hb]
          constructor
          · intro q o1 h1 o2 h2
            have e : ∀ o ∈ x :: r', stL l cuts fills o = stL l cuts fills x := fun o ho => by
              rcases List.mem_cons.mp ho with h | h
              · rw [h]
              · exact q o h
            rw [e o1 h1, e o2 h2]
          · intro q o ho; exact q o (by simp [ho]) x (by simp)
        refine t34a (f := stL l cuts fills) hx hfl hb2 ?_
        refine t35 hw ?_
        refine t36 (due := .bl (decide (loSt l cuts fills ws = hiSt l cuts fills ws))) (fun a' d k r C' ha hd hk h => ⟨r, a', l, d, cuts, _, fills, k, ws, rfl, hk, by omega, .inl ⟨ha, hne, by omega, ⟨hd, .inr rfl, hk, hn, by omega, by omega, by omega, hi⟩, h⟩⟩) ?_
        exact t37 trivial (done _ _ _ _ _ _ _)
    · obtain ⟨i, j, hF⟩ := clash_first hn
      have hnil : fitL cuts.length fills.length ws = [] := by
        cases q : fitL cuts.length fills.length ws with
        | nil => rfl
        | cons x r' => exact absurd (hfit x (by rw [q]; simp)).no hn
      rw [hnil]
      have lo := allO_five (c := cuts.length) (f := fills.length) (by omega) (by omega)
      refine t34b (by omega) (by omega) (fun o' ho => ?_) (any_contr hi) hF ?_
      · have h1 := (mem_allO _ _ _ (Nat.le_refl _) o').mp ho
        have := cT_cF o'
        exact ⟨by omega, by rw [h1.1, h1.2]; exact hi⟩
      refine t35 hw ?_
      refine t36 (due := .tup [.str "clash", plD i j]) (fun a' d k r C' ha hd hk h => ⟨r, a', l, d, cuts, _, fills, k, ws, rfl, hk, by omega, .inr ⟨i, j, hF, h⟩⟩) ?_
      exact t37 (okN_clash i j) (done _ _ _ _ _ _ _)
  · obtain ⟨_, _, zs, w6, w7, w10, w11, w12, w13, w14, hB, rfl⟩ := hI
    exact ⟨zs, rfl, hC zs (hB.mono (by show m + 7500 + 2000 * (3 - 0) ≤ m + 1000000; omega))⟩
theorem rd_law : ∀ ds C, ds.length = 1 → g_law ds C → T_law g__law_box g__law_right (EA C) (startA N_law ds) := by
  rintro ds C - ⟨ns, rfl, hns, hC⟩
  refine ⟨by show (-(2 ^ 62) : Int) ≤ 1 + min 3 _; omega, by show (1 + min 3 _ : Int) < 2 ^ 62; omega, ?_⟩
  refine lc_rg (1 + min 3 (ns.length : Int)).toNat (fun _ => .bl true) rfl (fun k hk K hK => ?_) (by omega) ?_
  · refine ⟨rfl, ns, k, rfl, by omega, by omega, fun a0 zs hB => ⟨rfl, 0, by omega, hB, rfl, fun zs1 hB1 => hK _ rfl⟩⟩
  · refine ⟨(List.range (1 + min 3 (ns.length : Int)).toNat).map fun _ => true, by rw [List.map_map]; rfl, ?_⟩
    have : ((List.range (1 + min 3 (ns.length : Int)).toNat).map fun _ => true).all id = true := by rw [List.all_map, List.all_eq_true]; intro x _; rfl
    rw [this]; exact hC
end Pl
namespace Pl
open PySem PySem.Spec PyProof.Rows L2
def topS (i : Nat) : Stmt := PySem.Challenge.pw_dunebooks_k43_words_that_are_enough.main.body.getD i (.Pass ⟨0, 0, 0, 0⟩)
abbrev s_own_copy : Stmt := topS 1
abbrev NN_own_copy : List Str := [("thing" : Str), ("part" : Str)]
theorem sc_own_copy : FnScope NN_own_copy ["thing"] (defScope s_own_copy) := ⟨rfl, rfl, rfl, by decide +kernel, rfl, by decide +kernel, by decide +kernel⟩
abbrev s_mirrored : Stmt := topS 7
abbrev NN_mirrored : List Str := [("dune" : Str)]
theorem sc_mirrored : FnScope NN_mirrored ["dune"] (defScope s_mirrored) := ⟨rfl, rfl, rfl, by decide +kernel, rfl, by decide +kernel, by decide +kernel⟩
abbrev s_upside : Stmt := topS 8
abbrev NN_upside : List Str := [("dune" : Str), ("height" : Str)]
theorem sc_upside : FnScope NN_upside ["dune"] (defScope s_upside) := ⟨rfl, rfl, rfl, by decide +kernel, rfl, by decide +kernel, by decide +kernel⟩
abbrev s_blown : Stmt := topS 10
abbrev NN_blown : List Str := [("dune" : Str), ("wind" : Str), ("word" : Str), ("slope" : Str)]
theorem sc_blown : FnScope NN_blown ["dune", "wind"] (defScope s_blown) := ⟨rfl, rfl, rfl, by decide +kernel, rfl, by decide +kernel, by decide +kernel⟩
abbrev s_cut_to : Stmt := topS 11
abbrev NN_cut_to : List Str := [("dune" : Str), ("slope" : Str), ("onward" : Str)]
theorem sc_cut_to : FnScope NN_cut_to ["dune", "slope"] (defScope s_cut_to) := ⟨rfl, rfl, rfl, by decide +kernel, rfl, by decide +kernel, by decide +kernel⟩
abbrev s_cut_onward : Stmt := topS 12
abbrev NN_cut_onward : List Str := [("dune" : Str), ("slope" : Str), ("heights" : Str), ("height" : Str)]
theorem sc_cut_onward : FnScope NN_cut_onward ["dune", "slope"] (defScope s_cut_onward) := ⟨rfl, rfl, rfl, by decide +kernel, rfl, by decide +kernel, by decide +kernel⟩
abbrev s_days : Stmt := topS 14
abbrev NN_days : List Str := [("dune" : Str), ("almanac" : Str), ("rows" : Str), ("wind" : Str)]
theorem sc_days : FnScope NN_days ["dune", "almanac"] (defScope s_days) := ⟨rfl, rfl, rfl, by decide +kernel, rfl, by decide +kernel, by decide +kernel⟩
abbrev s_behind : Stmt := topS 15
abbrev NN_behind : List Str := [("dune" : Str), ("almanac" : Str)]
theorem sc_behind : FnScope NN_behind ["dune", "almanac"] (defScope s_behind) := ⟨rfl, rfl, rfl, by decide +kernel, rfl, by decide +kernel, by decide +kernel⟩
abbrev s_almanac_of : Stmt := topS 17
abbrev NN_almanac_of : List Str := [("cuts" : Str), ("fills" : Str), ("order" : Str), ("winds" : Str), ("cut" : Str), ("fill" : Str), ("sign" : Str)]
theorem sc_almanac_of : FnScope NN_almanac_of ["cuts", "fills", "order"] (defScope s_almanac_of) := ⟨rfl, rfl, rfl, by decide +kernel, rfl, by decide +kernel, by decide +kernel⟩
abbrev s_are_contrary : Stmt := topS 18
abbrev NN_are_contrary : List Str := [("one" : Str), ("other" : Str), ("of_cut" : Str), ("of_fill" : Str)]
theorem sc_are_contrary : FnScope NN_are_contrary ["one", "other"] (defScope s_are_contrary) := ⟨rfl, rfl, rfl, by decide +kernel, rfl, by decide +kernel, by decide +kernel⟩
abbrev s_first_clash : Stmt := topS 19
abbrev NN_first_clash : List Str := [("words" : Str), ("one" : Str), ("other" : Str)]
theorem sc_first_clash : FnScope NN_first_clash ["words"] (defScope s_first_clash) := ⟨rfl, rfl, rfl, by decide +kernel, rfl, by decide +kernel, by decide +kernel⟩
abbrev s_refuse_clash : Stmt := topS 20
abbrev NN_refuse_clash : List Str := [("words" : Str), ("places" : Str)]
theorem sc_refuse_clash : FnScope NN_refuse_clash ["words"] (defScope s_refuse_clash) := ⟨rfl, rfl, rfl, by decide +kernel, rfl, by decide +kernel, by decide +kernel⟩
abbrev s_least_ahead : Stmt := topS 21
abbrev NN_least_ahead : List Str := [("words" : Str), ("fill" : Str), ("word" : Str), ("cut" : Str), ("at" : Str)]
theorem sc_least_ahead : FnScope NN_least_ahead ["words", "fill"] (defScope s_least_ahead) := ⟨rfl, rfl, rfl, by decide +kernel, rfl, by decide +kernel, by decide +kernel⟩
abbrev s_most_ahead : Stmt := topS 22
abbrev NN_most_ahead : List Str := [("cuts" : Str), ("words" : Str), ("fill" : Str), ("word" : Str), ("cut" : Str), ("at" : Str)]
theorem sc_most_ahead : FnScope NN_most_ahead ["cuts", "words", "fill"] (defScope s_most_ahead) := ⟨rfl, rfl, rfl, by decide +kernel, rfl, by decide +kernel, by decide +kernel⟩
abbrev s_bounds : Stmt := topS 23
abbrev NN_bounds : List Str := [("cuts" : Str), ("fills" : Str), ("words" : Str), ("fill" : Str)]
theorem sc_bounds : FnScope NN_bounds ["cuts", "fills", "words"] (defScope s_bounds) := ⟨rfl, rfl, rfl, by decide +kernel, rfl, by decide +kernel, by decide +kernel⟩
abbrev s_order_with : Stmt := topS 25
abbrev NN_order_with : List Str := [("ahead" : Str), ("many" : Str), ("parts" : Str), ("done" : Str), ("cuts" : Str)]
theorem sc_order_with : FnScope NN_order_with ["ahead", "many"] (defScope s_order_with) := ⟨rfl, rfl, rfl, by decide +kernel, rfl, by decide +kernel, by decide +kernel⟩
abbrev s_least_order : Stmt := topS 26
abbrev NN_least_order : List Str := [("cuts" : Str), ("fills" : Str), ("words" : Str), ("least" : Str), ("most" : Str)]
theorem sc_least_order : FnScope NN_least_order ["cuts", "fills", "words"] (defScope s_least_order) := ⟨rfl, rfl, rfl, by decide +kernel, rfl, by decide +kernel, by decide +kernel⟩
abbrev s_greatest_order : Stmt := topS 27
abbrev NN_greatest_order : List Str := [("cuts" : Str), ("fills" : Str), ("words" : Str), ("least" : Str), ("most" : Str)]
theorem sc_greatest_order : FnScope NN_greatest_order ["cuts", "fills", "words"] (defScope s_greatest_order) := ⟨rfl, rfl, rfl, by decide +kernel, rfl, by decide +kernel, by decide +kernel⟩
abbrev s_may_stand : Stmt := topS 28
abbrev NN_may_stand : List Str := [("dune" : Str), ("cuts" : Str), ("fills" : Str), ("words" : Str), ("least" : Str), ("greatest" : Str)]
theorem sc_may_stand : FnScope NN_may_stand ["dune", "cuts", "fills", "words"] (defScope s_may_stand) := ⟨rfl, rfl, rfl, by decide +kernel, rfl, by decide +kernel, by decide +kernel⟩
abbrev s_sure_posts : Stmt := topS 29
abbrev NN_sure_posts : List Str := [("dune" : Str), ("cuts" : Str), ("fills" : Str), ("words" : Str), ("least" : Str), ("greatest" : Str), ("post" : Str), ("height" : Str)]
theorem sc_sure_posts : FnScope NN_sure_posts ["dune", "cuts", "fills", "words"] (defScope s_sure_posts) := ⟨rfl, rfl, rfl, by decide +kernel, rfl, by decide +kernel, by decide +kernel⟩
abbrev s_is_enough : Stmt := topS 31
abbrev NN_is_enough : List Str := [("dune" : Str), ("cuts" : Str), ("fills" : Str), ("words" : Str)]
theorem sc_is_enough : FnScope NN_is_enough ["dune", "cuts", "fills", "words"] (defScope s_is_enough) := ⟨rfl, rfl, rfl, by decide +kernel, rfl, by decide +kernel, by decide +kernel⟩
abbrev s__law_cell_at : Stmt := topS 33
abbrev NN__law_cell_at : List Str := [("_law_script" : Str), ("_law_k" : Str)]
theorem sc__law_cell_at : FnScope NN__law_cell_at ["_law_script", "_law_k"] (defScope s__law_cell_at) := ⟨rfl, rfl, rfl, by decide +kernel, rfl, by decide +kernel, by decide +kernel⟩
abbrev s__law_box : Stmt := topS 34
abbrev NN__law_box : List Str := [("_law_script" : Str), ("_law_k" : Str), ("_law_cell" : Str)]
theorem sc__law_box : FnScope NN__law_box ["_law_script", "_law_k"] (defScope s__law_box) := ⟨rfl, rfl, rfl, by decide +kernel, rfl, by decide +kernel, by decide +kernel⟩
abbrev s__law_take : Stmt := topS 35
abbrev NN__law_take : List Str := [("_law_box_here" : Str), ("_law_size" : Str), ("_law_told_here" : Str), ("_law_once" : Str), ("_law_twice" : Str)]
theorem sc__law_take : FnScope NN__law_take ["_law_box_here", "_law_size"] (defScope s__law_take) := ⟨rfl, rfl, rfl, by decide +kernel, rfl, by decide +kernel, by decide +kernel⟩
abbrev s__law_same : Stmt := topS 36
abbrev NN__law_same : List Str := [("_law_told_here" : Str), ("_law_due" : Str), ("_law_one" : Str), ("_law_two" : Str)]
theorem sc__law_same : FnScope NN__law_same ["_law_told_here", "_law_due"] (defScope s__law_same) := ⟨rfl, rfl, rfl, by decide +kernel, rfl, by decide +kernel, by decide +kernel⟩
abbrev s__law_blown : Stmt := topS 37
abbrev NN__law_blown : List Str := [("_law_dune_here" : Str), ("_law_wind" : Str), ("_law_word" : Str), ("_law_slope_here" : Str), ("_law_told_here" : Str), ("_law_i" : Str), ("_law_j" : Str)]
theorem sc__law_blown : FnScope NN__law_blown ["_law_dune_here", "_law_wind"] (defScope s__law_blown) := ⟨rfl, rfl, rfl, by decide +kernel, rfl, by decide +kernel, by decide +kernel⟩
abbrev s__law_behind : Stmt := topS 38
abbrev NN__law_behind : List Str := [("_law_dune_here" : Str), ("_law_winds" : Str), ("_law_wind" : Str)]
theorem sc__law_behind : FnScope NN__law_behind ["_law_dune_here", "_law_winds"] (defScope s__law_behind) := ⟨rfl, rfl, rfl, by decide +kernel, rfl, by decide +kernel, by decide +kernel⟩
abbrev s__law_dune : Stmt := topS 39
abbrev NN__law_dune : List Str := [("_law_box_here" : Str), ("_law_size" : Str), ("_law_many" : Str), ("_law_wide" : Str), ("_law_told_here" : Str), ("_law_post" : Str)]
theorem sc__law_dune : FnScope NN__law_dune ["_law_box_here", "_law_size"] (defScope s__law_dune) := ⟨rfl, rfl, rfl, by decide +kernel, rfl, by decide +kernel, by decide +kernel⟩
abbrev s__law_slope : Stmt := topS 40
abbrev NN__law_slope : List Str := [("_law_box_here" : Str)]
theorem sc__law_slope : FnScope NN__law_slope ["_law_box_here"] (defScope s__law_slope) := ⟨rfl, rfl, rfl, by decide +kernel, rfl, by decide +kernel, by decide +kernel⟩
abbrev s__law_books : Stmt := topS 41
abbrev NN__law_books : List Str := [("_law_box_here" : Str), ("_law_size" : Str), ("_law_cuts" : Str), ("_law_fills" : Str), ("_law_way" : Str), ("_law_slope_here" : Str), ("_law_turn" : Str), ("_law_book" : Str)]
theorem sc__law_books : FnScope NN__law_books ["_law_box_here", "_law_size"] (defScope s__law_books) := ⟨rfl, rfl, rfl, by decide +kernel, rfl, by decide +kernel, by decide +kernel⟩
abbrev s__law_orders : Stmt := topS 42
abbrev NN__law_orders : List Str := [("_law_cuts" : Str), ("_law_fills" : Str), ("_law_text" : Str)]
theorem sc__law_orders : FnScope NN__law_orders ["_law_cuts", "_law_fills"] (defScope s__law_orders) := ⟨rfl, rfl, rfl, by decide +kernel, rfl, by decide +kernel, by decide +kernel⟩
abbrev s__law_almanac : Stmt := topS 43
abbrev NN__law_almanac : List Str := [("_law_cuts" : Str), ("_law_fills" : Str), ("_law_order_here" : Str), ("_law_left" : Str), ("_law_right_here" : Str), ("_law_told_here" : Str), ("_law_letter" : Str)]
theorem sc__law_almanac : FnScope NN__law_almanac ["_law_cuts", "_law_fills", "_law_order_here"] (defScope s__law_almanac) := ⟨rfl, rfl, rfl, by decide +kernel, rfl, by decide +kernel, by decide +kernel⟩
abbrev s__law_order : Stmt := topS 44
abbrev NN__law_order : List Str := [("_law_box_here" : Str), ("_law_cuts" : Str), ("_law_fills" : Str), ("_law_letters" : Str), ("_law_told_here" : Str), ("_law_turn" : Str)]
theorem sc__law_order : FnScope NN__law_order ["_law_box_here", "_law_cuts", "_law_fills"] (defScope s__law_order) := ⟨rfl, rfl, rfl, by decide +kernel, rfl, by decide +kernel, by decide +kernel⟩
abbrev s__law_has : Stmt := topS 45
abbrev NN__law_has : List Str := [("_law_order_here" : Str), ("_law_word" : Str), ("_law_kind" : Str), ("_law_cut" : Str), ("_law_fill" : Str), ("_law_k" : Str), ("_law_letter" : Str), ("_law_spots" : Str), ("_law_others" : Str)]
theorem sc__law_has : FnScope NN__law_has ["_law_order_here", "_law_word"] (defScope s__law_has) := ⟨rfl, rfl, rfl, by decide +kernel, rfl, by decide +kernel, by decide +kernel⟩
abbrev s__law_words : Stmt := topS 46
abbrev NN__law_words : List Str := [("_law_box_here" : Str), ("_law_order_here" : Str), ("_law_size" : Str), ("_law_cuts" : Str), ("_law_fills" : Str), ("_law_told_here" : Str), ("_law_astray" : Str), ("_law_turn" : Str), ("_law_word" : Str)]
theorem sc__law_words : FnScope NN__law_words ["_law_box_here", "_law_order_here", "_law_size"] (defScope s__law_words) := ⟨rfl, rfl, rfl, by decide +kernel, rfl, by decide +kernel, by decide +kernel⟩
abbrev s__law_told : Stmt := topS 47
abbrev NN__law_told : List Str := [("_law_dune_here" : Str), ("_law_cuts" : Str), ("_law_fills" : Str), ("_law_words_here" : Str), ("_law_caught" : Str), ("_law_told_here" : Str), ("error" : Str)]
theorem sc__law_told : FnScope NN__law_told ["_law_dune_here", "_law_cuts", "_law_fills", "_law_words_here"] (defScope s__law_told) := ⟨rfl, rfl, rfl, by decide +kernel, rfl, by decide +kernel, by decide +kernel⟩
abbrev s__law_clash : Stmt := topS 48
abbrev NN__law_clash : List Str := [("_law_orders_here" : Str), ("_law_words_here" : Str), ("_law_one" : Str), ("_law_two" : Str), ("_law_order_here" : Str)]
theorem sc__law_clash : FnScope NN__law_clash ["_law_orders_here", "_law_words_here"] (defScope s__law_clash) := ⟨rfl, rfl, rfl, by decide +kernel, rfl, by decide +kernel, by decide +kernel⟩
abbrev s__law_right : Stmt := topS 49
abbrev NN__law_right : List Str := [("_law_box_here" : Str), ("_law_dune_here" : Str), ("_law_cuts" : Str), ("_law_fills" : Str), ("_law_orders_here" : Str), ("_law_order_here" : Str), ("_law_size" : Str), ("_law_words_here" : Str), ("_law_one" : Str), ("_law_word" : Str), ("_law_some" : Str), ("_law_ends" : Str), ("_law_due" : Str), ("_law_as_lists" : Str), ("_law_told_here" : Str)]
theorem sc__law_right : FnScope NN__law_right ["_law_box_here"] (defScope s__law_right) := ⟨rfl, rfl, rfl, by decide +kernel, rfl, by decide +kernel, by decide +kernel⟩
abbrev s_law : Stmt := topS 50
abbrev NN_law : List Str := [("_law_script" : Str), ("_law_k" : Str)]
theorem sc_law : FnScope NN_law ["_law_script"] (defScope s_law) := ⟨rfl, rfl, rfl, by decide +kernel, rfl, by decide +kernel, by decide +kernel⟩
abbrev si_Clash : Stmt := inS (topS 3) 0
set_option maxHeartbeats 4000000 in
structure Tx (K : PySem.W.Frag) (mg : Str → Option Value) where
  f_own_copy : Addr
  fd_own_copy : FuncData
  F_own_copy : Fun K "own_copy" "own_copy" s_own_copy f_own_copy fd_own_copy
  m_own_copy : mg "own_copy" = some (.ref f_own_copy)
  b_own_copy : L2.Binds K fd_own_copy ["thing"] []
  f_mirrored : Addr
  fd_mirrored : FuncData
  F_mirrored : Fun K "mirrored" "mirrored" s_mirrored f_mirrored fd_mirrored
  m_mirrored : mg "mirrored" = some (.ref f_mirrored)
  b_mirrored : L2.Binds K fd_mirrored ["dune"] []
  f_upside : Addr
  fd_upside : FuncData
  F_upside : Fun K "upside" "upside" s_upside f_upside fd_upside
  m_upside : mg "upside" = some (.ref f_upside)
  b_upside : L2.Binds K fd_upside ["dune"] []
  f_blown : Addr
  fd_blown : FuncData
  F_blown : Fun K "blown" "blown" s_blown f_blown fd_blown
  m_blown : mg "blown" = some (.ref f_blown)
  b_blown : L2.Binds K fd_blown ["dune", "wind"] []
  f_cut_to : Addr
  fd_cut_to : FuncData
  F_cut_to : Fun K "cut_to" "cut_to" s_cut_to f_cut_to fd_cut_to
  m_cut_to : mg "cut_to" = some (.ref f_cut_to)
  b_cut_to : L2.Binds K fd_cut_to ["dune", "slope"] []
  f_cut_onward : Addr
  fd_cut_onward : FuncData
  F_cut_onward : Fun K "cut_onward" "cut_onward" s_cut_onward f_cut_onward fd_cut_onward
  m_cut_onward : mg "cut_onward" = some (.ref f_cut_onward)
  b_cut_onward : L2.Binds K fd_cut_onward ["dune", "slope"] []
  f_days : Addr
  fd_days : FuncData
  F_days : Fun K "days" "days" s_days f_days fd_days
  m_days : mg "days" = some (.ref f_days)
  b_days : L2.Binds K fd_days ["dune", "almanac"] []
  f_behind : Addr
  fd_behind : FuncData
  F_behind : Fun K "behind" "behind" s_behind f_behind fd_behind
  m_behind : mg "behind" = some (.ref f_behind)
  b_behind : L2.Binds K fd_behind ["dune", "almanac"] []
  f_almanac_of : Addr
  fd_almanac_of : FuncData
  F_almanac_of : Fun K "almanac_of" "almanac_of" s_almanac_of f_almanac_of fd_almanac_of
  m_almanac_of : mg "almanac_of" = some (.ref f_almanac_of)
  b_almanac_of : L2.Binds K fd_almanac_of ["cuts", "fills", "order"] []
  f_are_contrary : Addr
  fd_are_contrary : FuncData
  F_are_contrary : Fun K "are_contrary" "are_contrary" s_are_contrary f_are_contrary fd_are_contrary
  m_are_contrary : mg "are_contrary" = some (.ref f_are_contrary)
  b_are_contrary : L2.Binds K fd_are_contrary ["one", "other"] []
  f_first_clash : Addr
  fd_first_clash : FuncData
  F_first_clash : Fun K "first_clash" "first_clash" s_first_clash f_first_clash fd_first_clash
  m_first_clash : mg "first_clash" = some (.ref f_first_clash)
  b_first_clash : L2.Binds K fd_first_clash ["words"] []
  f_refuse_clash : Addr
  fd_refuse_clash : FuncData
  F_refuse_clash : Fun K "refuse_clash" "refuse_clash" s_refuse_clash f_refuse_clash fd_refuse_clash
  m_refuse_clash : mg "refuse_clash" = some (.ref f_refuse_clash)
  b_refuse_clash : L2.Binds K fd_refuse_clash ["words"] []
  f_least_ahead : Addr
  fd_least_ahead : FuncData
  F_least_ahead : Fun K "least_ahead" "least_ahead" s_least_ahead f_least_ahead fd_least_ahead
  m_least_ahead : mg "least_ahead" = some (.ref f_least_ahead)
  b_least_ahead : L2.Binds K fd_least_ahead ["words", "fill"] []
  f_most_ahead : Addr
  fd_most_ahead : FuncData
  F_most_ahead : Fun K "most_ahead" "most_ahead" s_most_ahead f_most_ahead fd_most_ahead
  m_most_ahead : mg "most_ahead" = some (.ref f_most_ahead)
  b_most_ahead : L2.Binds K fd_most_ahead ["cuts", "words", "fill"] []
  f_bounds : Addr
  fd_bounds : FuncData
  F_bounds : Fun K "bounds" "bounds" s_bounds f_bounds fd_bounds
  m_bounds : mg "bounds" = some (.ref f_bounds)
  b_bounds : L2.Binds K fd_bounds ["cuts", "fills", "words"] []
  f_order_with : Addr
  fd_order_with : FuncData
  F_order_with : Fun K "order_with" "order_with" s_order_with f_order_with fd_order_with
  m_order_with : mg "order_with" = some (.ref f_order_with)
  b_order_with : L2.Binds K fd_order_with ["ahead", "many"] []
  f_least_order : Addr
  fd_least_order : FuncData
  F_least_order : Fun K "least_order" "least_order" s_least_order f_least_order fd_least_order
  m_least_order : mg "least_order" = some (.ref f_least_order)
  b_least_order : L2.Binds K fd_least_order ["cuts", "fills", "words"] []
  f_greatest_order : Addr
  fd_greatest_order : FuncData
  F_greatest_order : Fun K "greatest_order" "greatest_order" s_greatest_order f_greatest_order fd_greatest_order
  m_greatest_order : mg "greatest_order" = some (.ref f_greatest_order)
  b_greatest_order : L2.Binds K fd_greatest_order ["cuts", "fills", "words"] []
  f_may_stand : Addr
  fd_may_stand : FuncData
  F_may_stand : Fun K "may_stand" "may_stand" s_may_stand f_may_stand fd_may_stand
  m_may_stand : mg "may_stand" = some (.ref f_may_stand)
  b_may_stand : L2.Binds K fd_may_stand ["dune", "cuts", "fills", "words"] []
  f_sure_posts : Addr
  fd_sure_posts : FuncData
  F_sure_posts : Fun K "sure_posts" "sure_posts" s_sure_posts f_sure_posts fd_sure_posts
  m_sure_posts : mg "sure_posts" = some (.ref f_sure_posts)
  b_sure_posts : L2.Binds K fd_sure_posts ["dune", "cuts", "fills", "words"] []
  f_is_enough : Addr
  fd_is_enough : FuncData
  F_is_enough : Fun K "is_enough" "is_enough" s_is_enough f_is_enough fd_is_enough
  m_is_enough : mg "is_enough" = some (.ref f_is_enough)
  b_is_enough : L2.Binds K fd_is_enough ["dune", "cuts", "fills", "words"] []
  f__law_cell_at : Addr
  fd__law_cell_at : FuncData
  F__law_cell_at : Fun K "_law_cell_at" "_law_cell_at" s__law_cell_at f__law_cell_at fd__law_cell_at
  m__law_cell_at : mg "_law_cell_at" = some (.ref f__law_cell_at)
  b__law_cell_at : L2.Binds K fd__law_cell_at ["_law_script", "_law_k"] []
  f__law_box : Addr
  fd__law_box : FuncData
  F__law_box : Fun K "_law_box" "_law_box" s__law_box f__law_box fd__law_box
  m__law_box : mg "_law_box" = some (.ref f__law_box)
  b__law_box : L2.Binds K fd__law_box ["_law_script", "_law_k"] []
  f__law_take : Addr
  fd__law_take : FuncData
  F__law_take : Fun K "_law_take" "_law_take" s__law_take f__law_take fd__law_take
  m__law_take : mg "_law_take" = some (.ref f__law_take)
  b__law_take : L2.Binds K fd__law_take ["_law_box_here", "_law_size"] []
  f__law_same : Addr
  fd__law_same : FuncData
  F__law_same : Fun K "_law_same" "_law_same" s__law_same f__law_same fd__law_same
  m__law_same : mg "_law_same" = some (.ref f__law_same)
  b__law_same : L2.Binds K fd__law_same ["_law_told_here", "_law_due"] []
  f__law_blown : Addr
  fd__law_blown : FuncData
  F__law_blown : Fun K "_law_blown" "_law_blown" s__law_blown f__law_blown fd__law_blown
  m__law_blown : mg "_law_blown" = some (.ref f__law_blown)
  b__law_blown : L2.Binds K fd__law_blown ["_law_dune_here", "_law_wind"] []
  f__law_behind : Addr
  fd__law_behind : FuncData
  F__law_behind : Fun K "_law_behind" "_law_behind" s__law_behind f__law_behind fd__law_behind
  m__law_behind : mg "_law_behind" = some (.ref f__law_behind)
  b__law_behind : L2.Binds K fd__law_behind ["_law_dune_here", "_law_winds"] []
  f__law_dune : Addr
  fd__law_dune : FuncData
  F__law_dune : Fun K "_law_dune" "_law_dune" s__law_dune f__law_dune fd__law_dune
  m__law_dune : mg "_law_dune" = some (.ref f__law_dune)
  b__law_dune : L2.Binds K fd__law_dune ["_law_box_here", "_law_size"] []
  f__law_slope : Addr
  fd__law_slope : FuncData
  F__law_slope : Fun K "_law_slope" "_law_slope" s__law_slope f__law_slope fd__law_slope
  m__law_slope : mg "_law_slope" = some (.ref f__law_slope)
  b__law_slope : L2.Binds K fd__law_slope ["_law_box_here"] []
  f__law_books : Addr
  fd__law_books : FuncData
  F__law_books : Fun K "_law_books" "_law_books" s__law_books f__law_books fd__law_books
  m__law_books : mg "_law_books" = some (.ref f__law_books)
  b__law_books : L2.Binds K fd__law_books ["_law_box_here", "_law_size"] []
  f__law_orders : Addr
  fd__law_orders : FuncData
  F__law_orders : Fun K "_law_orders" "_law_orders" s__law_orders f__law_orders fd__law_orders
  m__law_orders : mg "_law_orders" = some (.ref f__law_orders)
  b__law_orders : L2.Binds K fd__law_orders ["_law_cuts", "_law_fills"] []
  f__law_almanac : Addr
  fd__law_almanac : FuncData
  F__law_almanac : Fun K "_law_almanac" "_law_almanac" s__law_almanac f__law_almanac fd__law_almanac
  m__law_almanac : mg "_law_almanac" = some (.ref f__law_almanac)
  b__law_almanac : L2.Binds K fd__law_almanac ["_law_cuts", "_law_fills", "_law_order_here"] []
  f__law_order : Addr
  fd__law_order : FuncData
  F__law_order : Fun K "_law_order" "_law_order" s__law_order f__law_order fd__law_order
  m__law_order : mg "_law_order" = some (.ref f__law_order)
  b__law_order : L2.Binds K fd__law_order ["_law_box_here", "_law_cuts", "_law_fills"] []
  f__law_has : Addr
  fd__law_has : FuncData
  F__law_has : Fun K "_law_has" "_law_has" s__law_has f__law_has fd__law_has
  m__law_has : mg "_law_has" = some (.ref f__law_has)
  b__law_has : L2.Binds K fd__law_has ["_law_order_here", "_law_word"] []
  f__law_words : Addr
  fd__law_words : FuncData
  F__law_words : Fun K "_law_words" "_law_words" s__law_words f__law_words fd__law_words
  m__law_words : mg "_law_words" = some (.ref f__law_words)
  b__law_words : L2.Binds K fd__law_words ["_law_box_here", "_law_order_here", "_law_size"] []
  f__law_told : Addr
  fd__law_told : FuncData
  F__law_told : Fun K "_law_told" "_law_told" s__law_told f__law_told fd__law_told
  m__law_told : mg "_law_told" = some (.ref f__law_told)
  b__law_told : L2.Binds K fd__law_told ["_law_dune_here", "_law_cuts", "_law_fills", "_law_words_here"] []
  f__law_clash : Addr
  fd__law_clash : FuncData
  F__law_clash : Fun K "_law_clash" "_law_clash" s__law_clash f__law_clash fd__law_clash
  m__law_clash : mg "_law_clash" = some (.ref f__law_clash)
  b__law_clash : L2.Binds K fd__law_clash ["_law_orders_here", "_law_words_here"] []
  f__law_right : Addr
  fd__law_right : FuncData
  F__law_right : Fun K "_law_right" "_law_right" s__law_right f__law_right fd__law_right
  m__law_right : mg "_law_right" = some (.ref f__law_right)
  b__law_right : L2.Binds K fd__law_right ["_law_box_here"] []
  f_law : Addr
  fd_law : FuncData
  F_law : Fun K "law" "law" s_law f_law fd_law
  m_law : mg "law" = some (.ref f_law)
  b_law : L2.Binds K fd_law ["_law_script"] []
  C_Against : Addr
  x_Against : XCl K mg "Against" C_Against
  C_Clash : Addr
  x_Clash : XCl K mg "Clash" C_Clash
  fI_Clash : Addr
  fdI_Clash : FuncData
  iC_Clash : PySem.W.findIn K (.ref C_Clash) "__init__" = some (some (.ref fI_Clash))
  tI_Clash : PySem.W.typeIn K (.ref fI_Clash) = some (.type "function")
  FI_Clash : Fun K "__init__" "Clash.__init__" si_Clash fI_Clash fdI_Clash
  bI_Clash : L2.Binds K fdI_Clash ["self", "places"] []
  vI_Clash : PySem.W.findCls K (.type "ValueError") (.type "type") "__init__" = some (.val (.builtin "ValueError.__init__"))
  C_Unlike : Addr
  x_Unlike : XCl K mg "Unlike" C_Unlike
  z_ValueError : mg "ValueError" = none
  z_abs : mg "abs" = none
  z_all : mg "all" = none
  z_any : mg "any" = none
  z_bool : mg "bool" = none
  z_enumerate : mg "enumerate" = none
  z_int : mg "int" = none
  z_isinstance : mg "isinstance" = none
  z_len : mg "len" = none
  z_list : mg "list" = none
  z_max : mg "max" = none
  z_min : mg "min" = none
  z_range : mg "range" = none
  z_str : mg "str" = none
  z_tuple : mg "tuple" = none
  z_zip : mg "zip" = none
section
variable {P : Program} {w : World} {K : PySem.W.Frag} {mg : Str → Option Value} {base : Heap} (Z : Tx K mg)
include Z
set_option maxHeartbeats 4000000 in
theorem bd_own_copy {k : Nat} {g_own_copy : FA} (O_own_copy : FnOk P w K mg base CX0 k Z.f_own_copy Z.fd_own_copy [("thing" : Str)] (spA K 1 g_own_copy)) : ∀ (cdv : Value) (A : Around) (outer : List Env) (s : Shared) (H : Hp) (E : XK), Room k (A.deeper (envOfC "own_copy" (defScope s_own_copy) s.heap.objs.size Z.f_own_copy cdv)) → ∃ t, PPSs (cxOf CX0 P w K mg base NN_own_copy "own_copy" (defScope s_own_copy) Z.f_own_copy cdv A outer s H E).nox (defBody s_own_copy) t (T_own_copy g_own_copy) :=
  fun cdv A outer s H E hr => ⟨_, (ppss_cons (pps_if (ppt_val (ppe_isi isT_list (by rfl) Z.z_isinstance (by rfl) Z.z_list (ppe_var 0)))
    (ppss_one (pps_ret (ppc_lcL (own := [("part", 1)]) rfl sc_own_copy.nd (ppi_seq (ppe_var 0)) (blkOk_by (N := NN_own_copy) (sc := defScope s_own_copy) (by decide +kernel)) (fun _ _ _ _ _ => ((ptg_name (i := 1) sc_own_copy.nd)).lift) (fun _ _ _ _ _ => (ppts_nil).lift) (fun _ _ _ _ _ => ((ppe_frz (ppc_callA O_own_copy hr (by rfl) Z.m_own_copy Z.F_own_copy.kp Z.b_own_copy (ppa_cons (ppe_var 1) ppa_nil)))).lift))))
    ppss_nil)
    (ppss_cons (pps_if (ppt_val (ppe_isi isT_tuple (by rfl) Z.z_isinstance (by rfl) Z.z_tuple (ppe_var 0)))
    (ppss_one (pps_ret (ppc_val (ppe_callTy call_tuple_of cp_tup (by rfl) Z.z_tuple (by decide +kernel) (ppa_cons (ppe_lcL (own := [("part", 1)]) rfl sc_own_copy.nd (ppi_seq (ppe_var 0)) (blkOk_by (N := NN_own_copy) (sc := defScope s_own_copy) (by decide +kernel)) (fun _ _ _ _ _ => ((ptg_name (i := 1) sc_own_copy.nd)).lift) (fun _ _ _ _ _ => (ppts_nil).lift) (fun _ _ _ _ _ => ((ppe_frz (ppc_callA O_own_copy hr (by rfl) Z.m_own_copy Z.F_own_copy.kp Z.b_own_copy (ppa_cons (ppe_var 1) ppa_nil)))).lift)) ppa_nil)))))
    ppss_nil)
    (ppss_one (pps_ret (ppc_move 0)))))⟩
set_option maxHeartbeats 4000000 in
theorem bd_mirrored {k : Nat} : ∀ (cdv : Value) (A : Around) (outer : List Env) (s : Shared) (H : Hp) (E : XK), Room k (A.deeper (envOfC "mirrored" (defScope s_mirrored) s.heap.objs.size Z.f_mirrored cdv)) → ∃ t, PPSs (cxOf CX0 P w K mg base NN_mirrored "mirrored" (defScope s_mirrored) Z.f_mirrored cdv A outer s H E).nox (defBody s_mirrored) t (T_mirrored) :=
  fun cdv A outer s H E hr => ⟨_, (ppss_one (pps_ret (ppc_val (ppe_callTy call_tuple_of cp_tup (by rfl) Z.z_tuple (by decide +kernel) (ppa_cons (ppe_rev (ppe_var 0)) ppa_nil)))))⟩
set_option maxHeartbeats 4000000 in
theorem bd_upside {k : Nat} : ∀ (cdv : Value) (A : Around) (outer : List Env) (s : Shared) (H : Hp) (E : XK), Room k (A.deeper (envOfC "upside" (defScope s_upside) s.heap.objs.size Z.f_upside cdv)) → ∃ t, PPSs (cxOf CX0 P w K mg base NN_upside "upside" (defScope s_upside) Z.f_upside cdv A outer s H E).nox (defBody s_upside) t (T_upside) :=
  fun cdv A outer s H E hr => ⟨_, (ppss_one (pps_ret (ppc_val (ppe_callTy call_tuple_of cp_tup (by rfl) Z.z_tuple (by decide +kernel) (ppa_cons (ppe_lcL (own := [("height", 1)]) rfl sc_upside.nd (ppi_seq (ppe_var 0)) (blkOk_by (N := NN_upside) (sc := defScope s_upside) (by decide +kernel)) (fun _ _ _ _ _ => ((ptg_name (i := 1) sc_upside.nd)).lift) (fun _ _ _ _ _ => (ppts_nil).lift) (fun _ _ _ _ _ => ((ppe_neg (ppe_var 1))).lift)) ppa_nil)))))⟩
set_option maxHeartbeats 4000000 in
theorem bd_blown {k : Nat} {g_upside : FA} (O_upside : FnOk P w K mg base CX0 k Z.f_upside Z.fd_upside [("dune" : Str)] (spA K 1 g_upside)) {g_cut_to : FA} (O_cut_to : FnOk P w K mg base CX0 k Z.f_cut_to Z.fd_cut_to [("dune" : Str), ("slope" : Str)] (spA K 2 g_cut_to)) : ∀ (cdv : Value) (A : Around) (outer : List Env) (s : Shared) (H : Hp) (E : XK), Room k (A.deeper (envOfC "blown" (defScope s_blown) s.heap.objs.size Z.f_blown cdv)) → ∃ t, PPSs (cxOf CX0 P w K mg base NN_blown "blown" (defScope s_blown) Z.f_blown cdv A outer s H E).nox (defBody s_blown) t (T_blown g_upside g_cut_to) :=
  fun cdv A outer s H E hr => ⟨_, (ppss_cons (pps_asg (ppe_var 1) (ptg_tup (n := 2) rfl (ptgs_cons (ptg_name (i := 2) sc_blown.nd) (ptgs_cons (ptg_name (i := 3) sc_blown.nd) ptgs_nil))))
    (ppss_cons (pps_if (ppt_cmp (cm_eq (hu64 hr)) (ppe_var 2) ppe_str (nomark _))
    (ppss_one (pps_ret (ppc_callA O_cut_to hr (by rfl) Z.m_cut_to Z.F_cut_to.kp Z.b_cut_to (ppa_cons (ppe_var 0) (ppa_cons (ppe_var 3) ppa_nil)))))
    ppss_nil)
    (ppss_one (pps_ret (ppc_callA O_upside hr (by rfl) Z.m_upside Z.F_upside.kp Z.b_upside (ppa_cons (ppe_frz (ppc_callA O_cut_to hr (by rfl) Z.m_cut_to Z.F_cut_to.kp Z.b_cut_to (ppa_cons (ppe_frz (ppc_callA O_upside hr (by rfl) Z.m_upside Z.F_upside.kp Z.b_upside (ppa_cons (ppe_var 0) ppa_nil))) (ppa_cons (ppe_var 3) ppa_nil)))) ppa_nil))))))⟩
set_option maxHeartbeats 4000000 in
theorem bd_cut_to {k : Nat} {g_mirrored : FA} (O_mirrored : FnOk P w K mg base CX0 k Z.f_mirrored Z.fd_mirrored [("dune" : Str)] (spA K 1 g_mirrored)) {g_cut_onward : FA} (O_cut_onward : FnOk P w K mg base CX0 k Z.f_cut_onward Z.fd_cut_onward [("dune" : Str), ("slope" : Str)] (spA K 2 g_cut_onward)) : ∀ (cdv : Value) (A : Around) (outer : List Env) (s : Shared) (H : Hp) (E : XK), Room k (A.deeper (envOfC "cut_to" (defScope s_cut_to) s.heap.objs.size Z.f_cut_to cdv)) → ∃ t, PPSs (cxOf CX0 P w K mg base NN_cut_to "cut_to" (defScope s_cut_to) Z.f_cut_to cdv A outer s H E).nox (defBody s_cut_to) t (T_cut_to g_mirrored g_cut_onward) :=
  fun cdv A outer s H E hr => ⟨_, (ppss_cons (pps_set (i := 2) sc_cut_to.nd (ppc_callA O_cut_onward hr (by rfl) Z.m_cut_onward Z.F_cut_onward.kp Z.b_cut_onward (ppa_cons (ppe_var 0) (ppa_cons (ppe_var 1) ppa_nil))))
    (ppss_one (pps_ret (ppc_callA O_mirrored hr (by rfl) Z.m_mirrored Z.F_mirrored.kp Z.b_mirrored (ppa_cons (ppe_frz (ppc_callA O_cut_onward hr (by rfl) Z.m_cut_onward Z.F_cut_onward.kp Z.b_cut_onward (ppa_cons (ppe_frz (ppc_callA O_mirrored hr (by rfl) Z.m_mirrored Z.F_mirrored.kp Z.b_mirrored (ppa_cons (ppe_var 2) ppa_nil))) (ppa_cons (ppe_var 1) ppa_nil)))) ppa_nil)))))⟩
set_option maxHeartbeats 4000000 in
theorem bd_cut_onward {k : Nat} : ∀ (cdv : Value) (A : Around) (outer : List Env) (s : Shared) (H : Hp) (E : XK), Room k (A.deeper (envOfC "cut_onward" (defScope s_cut_onward) s.heap.objs.size Z.f_cut_onward cdv)) → ∃ t, PPSs (cxOf CX0 P w K mg base NN_cut_onward "cut_onward" (defScope s_cut_onward) Z.f_cut_onward cdv A outer s H E).nox (defBody s_cut_onward) t (T_cut_onward) :=
  fun cdv A outer s H E hr => ⟨_, (ppss_cons (pps_set (i := 2) sc_cut_onward.nd (ppc_lst (ppa_cons (ppe_ixO 0 ppe_int) ppa_nil)))
    (ppss_cons (pps_for PassesOwn.never rfl (ppi_seq (ppe_slice (ppe_var 0) (ppo_some ppe_int) ppo_none)) (ptg_name (i := 3) sc_cut_onward.nd)
    (ppss_one (pps_append 2 (ppe_callB (call_min2 rfl) cp_min2 (by rfl) Z.z_min (by decide +kernel) (ppa_cons (ppe_var 3) (ppa_cons (ppe_add (ppe_ixO 2 (ppe_neg ppe_int)) (ppe_var 1)) ppa_nil))))))
    (ppss_one (pps_ret (ppc_move 2)))))⟩
set_option maxHeartbeats 4000000 in
theorem bd_days {k : Nat} {g_blown : FA} (O_blown : FnOk P w K mg base CX0 k Z.f_blown Z.fd_blown [("dune" : Str), ("wind" : Str)] (spA K 2 g_blown)) : ∀ (cdv : Value) (A : Around) (outer : List Env) (s : Shared) (H : Hp) (E : XK), Room k (A.deeper (envOfC "days" (defScope s_days) s.heap.objs.size Z.f_days cdv)) → ∃ t, PPSs (cxOf CX0 P w K mg base NN_days "days" (defScope s_days) Z.f_days cdv A outer s H E).nox (defBody s_days) t (T_days g_blown) :=
  fun cdv A outer s H E hr => ⟨_, (ppss_cons (pps_set (i := 2) sc_days.nd (ppc_lst (ppa_cons (ppe_callTy call_tuple_of cp_tup (by rfl) Z.z_tuple (by decide +kernel) (ppa_cons (ppe_var 0) ppa_nil)) ppa_nil)))
    (ppss_cons (pps_for PassesOwn.never rfl (ppi_seq (ppe_var 1)) (ptg_name (i := 3) sc_days.nd)
    (ppss_one (pps_append 2 (ppe_frz (ppc_callA O_blown hr (by rfl) Z.m_blown Z.F_blown.kp Z.b_blown (ppa_cons (ppe_ixO 2 (ppe_neg ppe_int)) (ppa_cons (ppe_var 3) ppa_nil)))))))
    (ppss_one (pps_ret (ppc_move 2)))))⟩
set_option maxHeartbeats 4000000 in
theorem bd_behind {k : Nat} {g_days : FA} (O_days : FnOk P w K mg base CX0 k Z.f_days Z.fd_days [("dune" : Str), ("almanac" : Str)] (spA K 2 g_days)) : ∀ (cdv : Value) (A : Around) (outer : List Env) (s : Shared) (H : Hp) (E : XK), Room k (A.deeper (envOfC "behind" (defScope s_behind) s.heap.objs.size Z.f_behind cdv)) → ∃ t, PPSs (cxOf CX0 P w K mg base NN_behind "behind" (defScope s_behind) Z.f_behind cdv A outer s H E).nox (defBody s_behind) t (T_behind g_days) :=
  fun cdv A outer s H E hr => ⟨_, (ppss_one (pps_ret (ppc_val (ppe_ix (ppe_frz (ppc_callA O_days hr (by rfl) Z.m_days Z.F_days.kp Z.b_days (ppa_cons (ppe_var 0) (ppa_cons (ppe_var 1) ppa_nil)))) (ppe_neg ppe_int)))))⟩
set_option maxHeartbeats 4000000 in
theorem bd_almanac_of {k : Nat} : ∀ (cdv : Value) (A : Around) (outer : List Env) (s : Shared) (H : Hp) (E : XK), Room k (A.deeper (envOfC "almanac_of" (defScope s_almanac_of) s.heap.objs.size Z.f_almanac_of cdv)) → ∃ t, PPSs (cxOf CX0 P w K mg base NN_almanac_of "almanac_of" (defScope s_almanac_of) Z.f_almanac_of cdv A outer s H E).nox (defBody s_almanac_of) t (T_almanac_of) :=
  fun cdv A outer s H E hr => ⟨_, (ppss_cons (pps_set (i := 3) sc_almanac_of.nd (ppc_lst ppa_nil))
    (ppss_cons (pps_set (i := 4) sc_almanac_of.nd (ppc_val ppe_int))
    (ppss_cons (pps_set (i := 5) sc_almanac_of.nd (ppc_val ppe_int))
    (ppss_cons (pps_for PassesOwn.never rfl (ppi_str (ppe_var 2)) (ptg_name (i := 6) sc_almanac_of.nd)
    (ppss_one (pps_if (ppt_cmp (cm_eq (hu64 hr)) (ppe_var 6) ppe_str (nomark _))
    (ppss_cons (pps_append 3 (ppe_tup (ppa_cons ppe_str (ppa_cons (ppe_ixO 0 (ppe_var 4)) ppa_nil))))
    (ppss_one (pps_augAdd (i := 4) sc_almanac_of.nd ppe_int)))
    (ppss_cons (pps_append 3 (ppe_tup (ppa_cons ppe_str (ppa_cons (ppe_ixO 1 (ppe_var 5)) ppa_nil))))
    (ppss_one (pps_augAdd (i := 5) sc_almanac_of.nd ppe_int))))))
    (ppss_one (pps_ret (ppc_move 3)))))))⟩
set_option maxHeartbeats 4000000 in
theorem bd_are_contrary {k : Nat} : ∀ (cdv : Value) (A : Around) (outer : List Env) (s : Shared) (H : Hp) (E : XK), Room k (A.deeper (envOfC "are_contrary" (defScope s_are_contrary) s.heap.objs.size Z.f_are_contrary cdv)) → ∃ t, PPSs (cxOf CX0 P w K mg base NN_are_contrary "are_contrary" (defScope s_are_contrary) Z.f_are_contrary cdv A outer s H E).nox (defBody s_are_contrary) t (T_are_contrary) :=
  fun cdv A outer s H E hr => ⟨_, (ppss_cons (pps_if (ppt_cmp (cm_eq (hu64 hr)) (ppe_ixO 0 ppe_int) (ppe_ixO 1 ppe_int) (nomark _))
    (ppss_one (pps_ret (ppc_val ppe_bl)))
    ppss_nil)
    (ppss_cons (pps_asg (ppe_ifExp (ppt_cmp (cm_eq (hu64 hr)) (ppe_ixO 0 ppe_int) ppe_str (nomark _)) (ppe_tup (ppa_cons (ppe_var 0) (ppa_cons (ppe_var 1) ppa_nil))) (ppe_tup (ppa_cons (ppe_var 1) (ppa_cons (ppe_var 0) ppa_nil)))) (ptg_tup (n := 2) rfl (ptgs_cons (ptg_name (i := 2) sc_are_contrary.nd) (ptgs_cons (ptg_name (i := 3) sc_are_contrary.nd) ptgs_nil))))
    (ppss_one (pps_ret (ppc_val (ppe_and (ppe_cmp cm_le (ppe_ixO 3 ppe_int) (ppe_ixO 2 ppe_int) (nomark _)) (ppe_one (ppe_cmp cm_le (ppe_ixO 2 ppe_int) (ppe_ixO 3 ppe_int) (nomark _)))))))))⟩
set_option maxHeartbeats 4000000 in
theorem bd_first_clash {k : Nat} {g_are_contrary : FA} (O_are_contrary : FnOk P w K mg base CX0 k Z.f_are_contrary Z.fd_are_contrary [("one" : Str), ("other" : Str)] (spA K 2 g_are_contrary)) : ∀ (cdv : Value) (A : Around) (outer : List Env) (s : Shared) (H : Hp) (E : XK), Room k (A.deeper (envOfC "first_clash" (defScope s_first_clash) s.heap.objs.size Z.f_first_clash cdv)) → ∃ t, PPSs (cxOf CX0 P w K mg base NN_first_clash "first_clash" (defScope s_first_clash) Z.f_first_clash cdv A outer s H E).nox (defBody s_first_clash) t (T_first_clash g_are_contrary) :=
  fun cdv A outer s H E hr => ⟨_, (ppss_cons (pps_for PassesOwn.never rfl (ppi_range1 (by rfl) Z.z_range (ppa_cons (ppe_lenO 0 (by rfl) Z.z_len) ppa_nil)) (ptg_name (i := 1) sc_first_clash.nd)
    (ppss_one (pps_for PassesOwn.never rfl (ppi_range2 (by rfl) Z.z_range (ppa_cons (ppe_add (ppe_var 1) ppe_int) (ppa_cons (ppe_lenO 0 (by rfl) Z.z_len) ppa_nil))) (ptg_name (i := 2) sc_first_clash.nd)
    (ppss_one (pps_if (ppt_val (ppe_frz (ppc_callA O_are_contrary hr (by rfl) Z.m_are_contrary Z.F_are_contrary.kp Z.b_are_contrary (ppa_cons (ppe_ixO 0 (ppe_var 1)) (ppa_cons (ppe_ixO 0 (ppe_var 2)) ppa_nil)))))
    (ppss_one (pps_ret (ppc_val (ppe_tup (ppa_cons (ppe_var 1) (ppa_cons (ppe_var 2) ppa_nil))))))
    ppss_nil)))))
    (ppss_one (pps_ret (ppc_val ppe_non))))⟩
set_option maxHeartbeats 4000000 in
theorem bd_refuse_clash {k : Nat} {g_first_clash : FA} (O_first_clash : FnOk P w K mg base CX0 k Z.f_first_clash Z.fd_first_clash [("words" : Str)] (spA K 1 g_first_clash)) : ∀ (cdv : Value) (A : Around) (outer : List Env) (s : Shared) (H : Hp) (E : XK), Room k (A.deeper (envOfC "refuse_clash" (defScope s_refuse_clash) s.heap.objs.size Z.f_refuse_clash cdv)) → ∃ t, PPSs (cxOf CX0 P w K mg base NN_refuse_clash "refuse_clash" (defScope s_refuse_clash) Z.f_refuse_clash cdv A outer s H E).nox (defBody s_refuse_clash) t (T_refuse_clash g_first_clash) :=
  fun cdv A outer s H E hr => ⟨_, (ppss_cons (pps_set (i := 1) sc_refuse_clash.nd (ppc_callA O_first_clash hr (by rfl) Z.m_first_clash Z.F_first_clash.kp Z.b_first_clash (ppa_cons (ppe_var 0) ppa_nil)))
    (ppss_one (pps_if (ppt_cmp cm_notN (ppe_var 1) ppe_non (nomark _))
    (ppss_one pps_never)
    ppss_nil)))⟩
set_option maxHeartbeats 4000000 in
theorem bd_least_ahead {k : Nat} : ∀ (cdv : Value) (A : Around) (outer : List Env) (s : Shared) (H : Hp) (E : XK), Room k (A.deeper (envOfC "least_ahead" (defScope s_least_ahead) s.heap.objs.size Z.f_least_ahead cdv)) → ∃ t, PPSs (cxOf CX0 P w K mg base NN_least_ahead "least_ahead" (defScope s_least_ahead) Z.f_least_ahead cdv A outer s H E).nox (defBody s_least_ahead) t (T_least_ahead) :=
  fun cdv A outer s H E hr => ⟨_, (ppss_one (pps_ret (ppc_val (ppe_maxD (by rfl) Z.z_max rfl (hu64 hr) (ppe_lcL (own := [("word", 2), ("cut", 3), ("at", 4)]) rfl sc_least_ahead.nd (ppi_seq (ppe_var 0)) (blkOk_by (N := NN_least_ahead) (sc := defScope s_least_ahead) (by decide +kernel)) (fun _ _ _ _ _ => ((ptg_tup (n := 3) rfl (ptgs_cons (ptg_name (i := 2) sc_least_ahead.nd) (ptgs_cons (ptg_name (i := 3) sc_least_ahead.nd) (ptgs_cons (ptg_name (i := 4) sc_least_ahead.nd) ptgs_nil))))).lift) (fun _ _ _ _ _ => ((ppts_one (PPW.ppt (ppw_and (ppt_cmp (cm_eq (hu64 hr)) (ppe_var 2) ppe_str (nomark _)) (ppw_and1 (ppt_cmp cm_le (ppe_var 4) (ppe_var 1) (nomark _))))))).lift) (fun _ _ _ _ _ => ((ppe_add (ppe_var 3) ppe_int)).lift)) ppe_int))))⟩
set_option maxHeartbeats 4000000 in
theorem bd_most_ahead {k : Nat} : ∀ (cdv : Value) (A : Around) (outer : List Env) (s : Shared) (H : Hp) (E : XK), Room k (A.deeper (envOfC "most_ahead" (defScope s_most_ahead) s.heap.objs.size Z.f_most_ahead cdv)) → ∃ t, PPSs (cxOf CX0 P w K mg base NN_most_ahead "most_ahead" (defScope s_most_ahead) Z.f_most_ahead cdv A outer s H E).nox (defBody s_most_ahead) t (T_most_ahead) :=
  fun cdv A outer s H E hr => ⟨_, (ppss_one (pps_ret (ppc_val (ppe_minD (by rfl) Z.z_min rfl (hu64 hr) (ppe_lcL (own := [("word", 3), ("cut", 4), ("at", 5)]) rfl sc_most_ahead.nd (ppi_seq (ppe_var 1)) (blkOk_by (N := NN_most_ahead) (sc := defScope s_most_ahead) (by decide +kernel)) (fun _ _ _ _ _ => ((ptg_tup (n := 3) rfl (ptgs_cons (ptg_name (i := 3) sc_most_ahead.nd) (ptgs_cons (ptg_name (i := 4) sc_most_ahead.nd) (ptgs_cons (ptg_name (i := 5) sc_most_ahead.nd) ptgs_nil))))).lift) (fun _ _ _ _ _ => ((ppts_one (PPW.ppt (ppw_and (ppt_cmp (cm_eq (hu64 hr)) (ppe_var 3) ppe_str (nomark _)) (ppw_and1 (ppt_cmp cm_ge (ppe_var 5) (ppe_var 2) (nomark _))))))).lift) (fun _ _ _ _ _ => ((ppe_var 4)).lift)) (ppe_lenO 0 (by rfl) Z.z_len)))))⟩
set_option maxHeartbeats 4000000 in
theorem bd_bounds {k : Nat} {g_refuse_clash : FA} (O_refuse_clash : FnOk P w K mg base CX0 k Z.f_refuse_clash Z.fd_refuse_clash [("words" : Str)] (spA K 1 g_refuse_clash)) {g_least_ahead : FA} (O_least_ahead : FnOk P w K mg base CX0 k Z.f_least_ahead Z.fd_least_ahead [("words" : Str), ("fill" : Str)] (spA K 2 g_least_ahead)) {g_most_ahead : FA} (O_most_ahead : FnOk P w K mg base CX0 k Z.f_most_ahead Z.fd_most_ahead [("cuts" : Str), ("words" : Str), ("fill" : Str)] (spA K 3 g_most_ahead)) : ∀ (cdv : Value) (A : Around) (outer : List Env) (s : Shared) (H : Hp) (E : XK), Room k (A.deeper (envOfC "bounds" (defScope s_bounds) s.heap.objs.size Z.f_bounds cdv)) → ∃ t, PPSs (cxOf CX0 P w K mg base NN_bounds "bounds" (defScope s_bounds) Z.f_bounds cdv A outer s H E).nox (defBody s_bounds) t (T_bounds g_refuse_clash g_least_ahead g_most_ahead) :=
  fun cdv A outer s H E hr => ⟨_, (ppss_cons (pps_expr (ppe_frz (ppc_callA O_refuse_clash hr (by rfl) Z.m_refuse_clash Z.F_refuse_clash.kp Z.b_refuse_clash (ppa_cons (ppe_var 2) ppa_nil))))
    (ppss_one (pps_ret (ppc_lcL (own := [("fill", 3)]) rfl sc_bounds.nd (ppi_range1 (by rfl) Z.z_range (ppa_cons (ppe_lenO 1 (by rfl) Z.z_len) ppa_nil)) (blkOk_by (N := NN_bounds) (sc := defScope s_bounds) (by decide +kernel)) (fun _ _ _ _ _ => ((ptg_name (i := 3) sc_bounds.nd)).lift) (fun _ _ _ _ _ => (ppts_nil).lift) (fun _ _ _ _ _ => ((ppe_tup (ppa_cons (ppe_frz (ppc_callA O_least_ahead hr (by rfl) Z.m_least_ahead Z.F_least_ahead.kp Z.b_least_ahead (ppa_cons (ppe_var 2) (ppa_cons (ppe_var 3) ppa_nil)))) (ppa_cons (ppe_frz (ppc_callA O_most_ahead hr (by rfl) Z.m_most_ahead Z.F_most_ahead.kp Z.b_most_ahead (ppa_cons (ppe_var 0) (ppa_cons (ppe_var 2) (ppa_cons (ppe_var 3) ppa_nil))))) ppa_nil)))).lift)))))⟩
set_option maxHeartbeats 4000000 in
theorem bd_order_with {k : Nat} : ∀ (cdv : Value) (A : Around) (outer : List Env) (s : Shared) (H : Hp) (E : XK), Room k (A.deeper (envOfC "order_with" (defScope s_order_with) s.heap.objs.size Z.f_order_with cdv)) → ∃ t, PPSs (cxOf CX0 P w K mg base NN_order_with "order_with" (defScope s_order_with) Z.f_order_with cdv A outer s H E).nox (defBody s_order_with) t (T_order_with) :=
  fun cdv A outer s H E hr => ⟨_, (ppss_cons (pps_set (i := 2) sc_order_with.nd (ppc_lst ppa_nil))
    (ppss_cons (pps_set (i := 3) sc_order_with.nd (ppc_val ppe_int))
    (ppss_cons (pps_for PassesOwn.never rfl (ppi_seq (ppe_var 0)) (ptg_name (i := 4) sc_order_with.nd)
    (ppss_cons (pps_append 2 (ppe_add (ppe_mulS ppe_str (ppe_sub (ppe_var 4) (ppe_var 3))) ppe_str))
    (ppss_one (pps_set (i := 3) sc_order_with.nd (ppc_val (ppe_var 4))))))
    (ppss_cons (pps_append 2 (ppe_mulS ppe_str (ppe_sub (ppe_var 1) (ppe_var 3))))
    (ppss_one (pps_ret (ppc_val (ppe_join ppe_str (ppe_var 2)))))))))⟩
set_option maxHeartbeats 4000000 in
theorem bd_least_order {k : Nat} {g_bounds : FA} (O_bounds : FnOk P w K mg base CX0 k Z.f_bounds Z.fd_bounds [("cuts" : Str), ("fills" : Str), ("words" : Str)] (spA K 3 g_bounds)) {g_order_with : FA} (O_order_with : FnOk P w K mg base CX0 k Z.f_order_with Z.fd_order_with [("ahead" : Str), ("many" : Str)] (spA K 2 g_order_with)) : ∀ (cdv : Value) (A : Around) (outer : List Env) (s : Shared) (H : Hp) (E : XK), Room k (A.deeper (envOfC "least_order" (defScope s_least_order) s.heap.objs.size Z.f_least_order cdv)) → ∃ t, PPSs (cxOf CX0 P w K mg base NN_least_order "least_order" (defScope s_least_order) Z.f_least_order cdv A outer s H E).nox (defBody s_least_order) t (T_least_order g_bounds g_order_with) :=
  fun cdv A outer s H E hr => ⟨_, (ppss_one (pps_ret (ppc_callA O_order_with hr (by rfl) Z.m_order_with Z.F_order_with.kp Z.b_order_with (ppa_cons (ppe_lcL (own := [("least", 3), ("most", 4)]) rfl sc_least_order.nd (ppi_seq (ppe_frz (ppc_callA O_bounds hr (by rfl) Z.m_bounds Z.F_bounds.kp Z.b_bounds (ppa_cons (ppe_var 0) (ppa_cons (ppe_var 1) (ppa_cons (ppe_var 2) ppa_nil)))))) (blkOk_by (N := NN_least_order) (sc := defScope s_least_order) (by decide +kernel)) (fun _ _ _ _ _ => ((ptg_tup (n := 2) rfl (ptgs_cons (ptg_name (i := 3) sc_least_order.nd) (ptgs_cons (ptg_name (i := 4) sc_least_order.nd) ptgs_nil)))).lift) (fun _ _ _ _ _ => (ppts_nil).lift) (fun _ _ _ _ _ => ((ppe_var 4)).lift)) (ppa_cons (ppe_lenO 0 (by rfl) Z.z_len) ppa_nil)))))⟩
set_option maxHeartbeats 4000000 in
theorem bd_greatest_order {k : Nat} {g_bounds : FA} (O_bounds : FnOk P w K mg base CX0 k Z.f_bounds Z.fd_bounds [("cuts" : Str), ("fills" : Str), ("words" : Str)] (spA K 3 g_bounds)) {g_order_with : FA} (O_order_with : FnOk P w K mg base CX0 k Z.f_order_with Z.fd_order_with [("ahead" : Str), ("many" : Str)] (spA K 2 g_order_with)) : ∀ (cdv : Value) (A : Around) (outer : List Env) (s : Shared) (H : Hp) (E : XK), Room k (A.deeper (envOfC "greatest_order" (defScope s_greatest_order) s.heap.objs.size Z.f_greatest_order cdv)) → ∃ t, PPSs (cxOf CX0 P w K mg base NN_greatest_order "greatest_order" (defScope s_greatest_order) Z.f_greatest_order cdv A outer s H E).nox (defBody s_greatest_order) t (T_greatest_order g_bounds g_order_with) :=
  fun cdv A outer s H E hr => ⟨_, (ppss_one (pps_ret (ppc_callA O_order_with hr (by rfl) Z.m_order_with Z.F_order_with.kp Z.b_order_with (ppa_cons (ppe_lcL (own := [("least", 3), ("most", 4)]) rfl sc_greatest_order.nd (ppi_seq (ppe_frz (ppc_callA O_bounds hr (by rfl) Z.m_bounds Z.F_bounds.kp Z.b_bounds (ppa_cons (ppe_var 0) (ppa_cons (ppe_var 1) (ppa_cons (ppe_var 2) ppa_nil)))))) (blkOk_by (N := NN_greatest_order) (sc := defScope s_greatest_order) (by decide +kernel)) (fun _ _ _ _ _ => ((ptg_tup (n := 2) rfl (ptgs_cons (ptg_name (i := 3) sc_greatest_order.nd) (ptgs_cons (ptg_name (i := 4) sc_greatest_order.nd) ptgs_nil)))).lift) (fun _ _ _ _ _ => (ppts_nil).lift) (fun _ _ _ _ _ => ((ppe_var 3)).lift)) (ppa_cons (ppe_lenO 0 (by rfl) Z.z_len) ppa_nil)))))⟩
set_option maxHeartbeats 4000000 in
theorem bd_may_stand {k : Nat} {g_behind : FA} (O_behind : FnOk P w K mg base CX0 k Z.f_behind Z.fd_behind [("dune" : Str), ("almanac" : Str)] (spA K 2 g_behind)) {g_almanac_of : FA} (O_almanac_of : FnOk P w K mg base CX0 k Z.f_almanac_of Z.fd_almanac_of [("cuts" : Str), ("fills" : Str), ("order" : Str)] (spA K 3 g_almanac_of)) {g_least_order : FA} (O_least_order : FnOk P w K mg base CX0 k Z.f_least_order Z.fd_least_order [("cuts" : Str), ("fills" : Str), ("words" : Str)] (spA K 3 g_least_order)) {g_greatest_order : FA} (O_greatest_order : FnOk P w K mg base CX0 k Z.f_greatest_order Z.fd_greatest_order [("cuts" : Str), ("fills" : Str), ("words" : Str)] (spA K 3 g_greatest_order)) : ∀ (cdv : Value) (A : Around) (outer : List Env) (s : Shared) (H : Hp) (E : XK), Room k (A.deeper (envOfC "may_stand" (defScope s_may_stand) s.heap.objs.size Z.f_may_stand cdv)) → ∃ t, PPSs (cxOf CX0 P w K mg base NN_may_stand "may_stand" (defScope s_may_stand) Z.f_may_stand cdv A outer s H E).nox (defBody s_may_stand) t (T_may_stand g_behind g_almanac_of g_least_order g_greatest_order) :=
  fun cdv A outer s H E hr => ⟨_, (ppss_cons (pps_set (i := 4) sc_may_stand.nd (ppc_callA O_almanac_of hr (by rfl) Z.m_almanac_of Z.F_almanac_of.kp Z.b_almanac_of (ppa_cons (ppe_var 1) (ppa_cons (ppe_var 2) (ppa_cons (ppe_frz (ppc_callA O_least_order hr (by rfl) Z.m_least_order Z.F_least_order.kp Z.b_least_order (ppa_cons (ppe_var 1) (ppa_cons (ppe_var 2) (ppa_cons (ppe_var 3) ppa_nil))))) ppa_nil)))))
    (ppss_cons (pps_set (i := 5) sc_may_stand.nd (ppc_callA O_almanac_of hr (by rfl) Z.m_almanac_of Z.F_almanac_of.kp Z.b_almanac_of (ppa_cons (ppe_var 1) (ppa_cons (ppe_var 2) (ppa_cons (ppe_frz (ppc_callA O_greatest_order hr (by rfl) Z.m_greatest_order Z.F_greatest_order.kp Z.b_greatest_order (ppa_cons (ppe_var 1) (ppa_cons (ppe_var 2) (ppa_cons (ppe_var 3) ppa_nil))))) ppa_nil)))))
    (ppss_one (pps_ret (ppc_val (ppe_tup (ppa_cons (ppe_frz (ppc_callA O_behind hr (by rfl) Z.m_behind Z.F_behind.kp Z.b_behind (ppa_cons (ppe_var 0) (ppa_cons (ppe_var 4) ppa_nil)))) (ppa_cons (ppe_frz (ppc_callA O_behind hr (by rfl) Z.m_behind Z.F_behind.kp Z.b_behind (ppa_cons (ppe_var 0) (ppa_cons (ppe_var 5) ppa_nil)))) ppa_nil))))))))⟩
set_option maxHeartbeats 4000000 in
theorem bd_sure_posts {k : Nat} {g_may_stand : FA} (O_may_stand : FnOk P w K mg base CX0 k Z.f_may_stand Z.fd_may_stand [("dune" : Str), ("cuts" : Str), ("fills" : Str), ("words" : Str)] (spA K 4 g_may_stand)) : ∀ (cdv : Value) (A : Around) (outer : List Env) (s : Shared) (H : Hp) (E : XK), Room k (A.deeper (envOfC "sure_posts" (defScope s_sure_posts) s.heap.objs.size Z.f_sure_posts cdv)) → ∃ t, PPSs (cxOf CX0 P w K mg base NN_sure_posts "sure_posts" (defScope s_sure_posts) Z.f_sure_posts cdv A outer s H E).nox (defBody s_sure_posts) t (T_sure_posts g_may_stand) :=
  fun cdv A outer s H E hr => ⟨_, (ppss_cons (pps_asg (ppe_frz (ppc_callA O_may_stand hr (by rfl) Z.m_may_stand Z.F_may_stand.kp Z.b_may_stand (ppa_cons (ppe_var 0) (ppa_cons (ppe_var 1) (ppa_cons (ppe_var 2) (ppa_cons (ppe_var 3) ppa_nil)))))) (ptg_tup (n := 2) rfl (ptgs_cons (ptg_name (i := 4) sc_sure_posts.nd) (ptgs_cons (ptg_name (i := 5) sc_sure_posts.nd) ptgs_nil))))
    (ppss_one (pps_ret (ppc_lcL (own := [("post", 6), ("height", 7)]) rfl sc_sure_posts.nd (ppi_e (by rfl) Z.z_enumerate (ppa_cons (ppe_var 4) ppa_nil)) (blkOk_by (N := NN_sure_posts) (sc := defScope s_sure_posts) (by decide +kernel)) (fun _ _ _ _ _ => ((ptg_tup (n := 2) rfl (ptgs_cons (ptg_name (i := 6) sc_sure_posts.nd) (ptgs_cons (ptg_name (i := 7) sc_sure_posts.nd) ptgs_nil)))).lift) (fun _ _ _ _ _ => ((ppts_one (ppt_cmp (cm_eq (hu64 hr)) (ppe_var 7) (ppe_ixO 5 (ppe_var 6)) (nomark _)))).lift) (fun _ _ _ _ _ => ((ppe_var 6)).lift)))))⟩
set_option maxHeartbeats 4000000 in
theorem bd_is_enough {k : Nat} {g_sure_posts : FA} (O_sure_posts : FnOk P w K mg base CX0 k Z.f_sure_posts Z.fd_sure_posts [("dune" : Str), ("cuts" : Str), ("fills" : Str), ("words" : Str)] (spA K 4 g_sure_posts)) : ∀ (cdv : Value) (A : Around) (outer : List Env) (s : Shared) (H : Hp) (E : XK), Room k (A.deeper (envOfC "is_enough" (defScope s_is_enough) s.heap.objs.size Z.f_is_enough cdv)) → ∃ t, PPSs (cxOf CX0 P w K mg base NN_is_enough "is_enough" (defScope s_is_enough) Z.f_is_enough cdv A outer s H E).nox (defBody s_is_enough) t (T_is_enough g_sure_posts) :=
  fun cdv A outer s H E hr => ⟨_, (ppss_one (pps_ret (ppc_val (ppe_cmp (cm_eq (hu64 hr)) (ppe_callB cr_lenA cp_len (by rfl) Z.z_len (by decide +kernel) (ppa_cons (ppe_frz (ppc_callA O_sure_posts hr (by rfl) Z.m_sure_posts Z.F_sure_posts.kp Z.b_sure_posts (ppa_cons (ppe_var 0) (ppa_cons (ppe_var 1) (ppa_cons (ppe_var 2) (ppa_cons (ppe_var 3) ppa_nil)))))) ppa_nil)) (ppe_lenO 0 (by rfl) Z.z_len) (nomark _)))))⟩
set_option maxHeartbeats 4000000 in
theorem bd__law_cell_at {k : Nat} : ∀ (cdv : Value) (A : Around) (outer : List Env) (s : Shared) (H : Hp) (E : XK), Room k (A.deeper (envOfC "_law_cell_at" (defScope s__law_cell_at) s.heap.objs.size Z.f__law_cell_at cdv)) → ∃ t, PPSs (cxOf CX0 P w K mg base NN__law_cell_at "_law_cell_at" (defScope s__law_cell_at) Z.f__law_cell_at cdv A outer s H E).nox (defBody s__law_cell_at) t (T__law_cell_at) :=
  fun cdv A outer s H E hr => ⟨_, (ppss_cons (pps_if (ppt_cmp cm_lt (ppe_var 1) (ppe_lenO 0 (by rfl) Z.z_len) (nomark _))
    (ppss_one (pps_ret (ppc_val (ppe_ixO 0 (ppe_var 1)))))
    ppss_nil)
    (ppss_one (pps_ret (ppc_val ppe_int))))⟩
set_option maxHeartbeats 4000000 in
theorem bd__law_box {k : Nat} {g__law_cell_at : FA} (O__law_cell_at : FnOk P w K mg base CX0 k Z.f__law_cell_at Z.fd__law_cell_at [("_law_script" : Str), ("_law_k" : Str)] (spA K 2 g__law_cell_at)) : ∀ (cdv : Value) (A : Around) (outer : List Env) (s : Shared) (H : Hp) (E : XK), Room k (A.deeper (envOfC "_law_box" (defScope s__law_box) s.heap.objs.size Z.f__law_box cdv)) → ∃ t, PPSs (cxOf CX0 P w K mg base NN__law_box "_law_box" (defScope s__law_box) Z.f__law_box cdv A outer s H E).nox (defBody s__law_box) t (T__law_box g__law_cell_at) :=
  fun cdv A outer s H E hr => ⟨_, (ppss_cons (pps_set (i := 2) sc__law_box.nd (ppc_callA O__law_cell_at hr (by rfl) Z.m__law_cell_at Z.F__law_cell_at.kp Z.b__law_cell_at (ppa_cons (ppe_var 0) (ppa_cons (ppe_var 1) ppa_nil))))
    (ppss_one (pps_ret (ppc_lst (ppa_cons (ppe_mul (ppe_callB call_abs cp_abs (by rfl) Z.z_abs (by decide +kernel) (ppa_cons (ppe_var 2) ppa_nil)) (ppe_callTy call_int1 cp_int1 (by rfl) Z.z_int (by decide +kernel) (ppa_cons (ppe_cmp cm_ge (ppe_callB call_abs cp_abs (by rfl) Z.z_abs (by decide +kernel) (ppa_cons (ppe_var 2) ppa_nil)) (ppe_powc 1000000000000000000) (nomark _)) ppa_nil))) (ppa_cons (ppe_add (ppe_add (ppe_mod (ppe_var 2) ppe_int) (ppe_mul ppe_int (ppe_var 1))) ppe_int) (ppa_cons ppe_int ppa_nil)))))))⟩
set_option maxHeartbeats 4000000 in
theorem bd__law_take {k : Nat} {g__law_take : FB} (O__law_take : FnOk P w K mg base CX0 k Z.f__law_take Z.fd__law_take [("_law_box_here" : Str), ("_law_size" : Str)] (spB K 2 g__law_take)) : ∀ (cdv : Value) (A : Around) (outer : List Env) (s : Shared) (H : Hp) (E : XK), Room k (A.deeper (envOfC "_law_take" (defScope s__law_take) s.heap.objs.size Z.f__law_take cdv)) → ∃ t, PPSs (cxOf CX0 P w K mg base NN__law_take "_law_take" (defScope s__law_take) Z.f__law_take cdv A outer s H E).nox (defBody s__law_take) t (T__law_take g__law_take) :=
  fun cdv A outer s H E hr => ⟨_, (ppss_cons (pps_if (ppt_cmp cm_gt (ppe_ixO 0 ppe_int) ppe_int (nomark _))
    (ppss_cons (pps_set (i := 2) sc__law_take.nd (ppc_val (ppe_mod (ppe_ixO 0 ppe_int) (ppe_var 1))))
    (ppss_cons (pps_store 0 ppe_int (ppe_div (ppe_ixO 0 ppe_int) (ppe_var 1)))
    (ppss_one (pps_ret (ppc_move 2)))))
    ppss_nil)
    (ppss_cons (pps_if (ppt_cmp cm_gt (ppe_var 1) (ppe_powc 10000000) (nomark _))
    (ppss_one (pps_ret (ppc_val (ppe_mod (ppe_add (ppe_frz (ppc_callB 0 O__law_take hr (by rfl) Z.m__law_take Z.F__law_take.kp Z.b__law_take (ppa_cons (ppe_powc 10000000) ppa_nil))) (ppe_mul (ppe_powc 10000000) (ppe_frz (ppc_callB 0 O__law_take hr (by rfl) Z.m__law_take Z.F__law_take.kp Z.b__law_take (ppa_cons (ppe_add (ppe_div (ppe_sub (ppe_var 1) ppe_int) (ppe_powc 10000000)) ppe_int) ppa_nil))))) (ppe_var 1)))))
    ppss_nil)
    (ppss_cons (pps_store 0 ppe_int (ppe_add (ppe_ixO 0 ppe_int) ppe_int))
    (ppss_cons (pps_set (i := 3) sc__law_take.nd (ppc_val (ppe_mod (ppe_mul (ppe_add (ppe_ixO 0 ppe_int) (ppe_mul ppe_int (ppe_ixO 0 ppe_int))) (ppe_add ppe_int (ppe_ixO 0 ppe_int))) ppe_int)))
    (ppss_cons (pps_set (i := 4) sc__law_take.nd (ppc_val (ppe_mod (ppe_mul (ppe_add (ppe_add (ppe_var 3) (ppe_ixO 0 ppe_int)) (ppe_div (ppe_ixO 0 ppe_int) ppe_int)) (ppe_add (ppe_mod (ppe_var 3) ppe_int) ppe_int)) ppe_int)))
    (ppss_one (pps_ret (ppc_val (ppe_mod (ppe_div (ppe_mod (ppe_add (ppe_mul (ppe_var 4) ppe_int) (ppe_var 3)) ppe_int) ppe_int) (ppe_var 1))))))))))⟩
set_option maxHeartbeats 4000000 in
theorem bd__law_same {k : Nat} {g__law_same : FA} (O__law_same : FnOk P w K mg base CX0 k Z.f__law_same Z.fd__law_same [("_law_told_here" : Str), ("_law_due" : Str)] (spA K 2 g__law_same)) : ∀ (cdv : Value) (A : Around) (outer : List Env) (s : Shared) (H : Hp) (E : XK), Room k (A.deeper (envOfC "_law_same" (defScope s__law_same) s.heap.objs.size Z.f__law_same cdv)) → ∃ t, PPSs (cxOf CX0 P w K mg base NN__law_same "_law_same" (defScope s__law_same) Z.f__law_same cdv A outer s H E).nox (defBody s__law_same) t (T__law_same g__law_same) :=
  fun cdv A outer s H E hr => ⟨_, (ppss_cons (pps_if (ppt_val (ppe_isi2 isT_list isT_tuple (by rfl) Z.z_isinstance (by rfl) Z.z_list (by rfl) Z.z_tuple (ppe_var 1)))
    (ppss_cons (pps_if (PPW.ppt (ppw_or (ppt_cmp (cm_ne (hu64 hr)) (ppe_isi isT_list (by rfl) Z.z_isinstance (by rfl) Z.z_list (ppe_var 0)) (ppe_isi isT_list (by rfl) Z.z_isinstance (by rfl) Z.z_list (ppe_var 1)) (nomark _)) (ppw_or1 (ppt_cmp (cm_ne (hu64 hr)) (ppe_isi isT_tuple (by rfl) Z.z_isinstance (by rfl) Z.z_tuple (ppe_var 0)) (ppe_isi isT_tuple (by rfl) Z.z_isinstance (by rfl) Z.z_tuple (ppe_var 1)) (nomark _)))))
    (ppss_one (pps_ret (ppc_val ppe_bl)))
    ppss_nil)
    (ppss_one (pps_ret (ppc_val (ppe_and (ppe_cmp (cm_eq (hu64 hr)) (ppe_lenO 0 (by rfl) Z.z_len) (ppe_lenO 1 (by rfl) Z.z_len) (nomark _)) (ppe_one (ppe_callB (cr_all rfl) cp_all (by rfl) Z.z_all (by decide +kernel) (ppa_cons (ppe_lcL (own := [("_law_one", 2), ("_law_two", 3)]) rfl sc__law_same.nd (ppi_z2 (by rfl) Z.z_zip (ppa_cons (ppe_var 0) (ppa_cons (ppe_var 1) ppa_nil))) (blkOk_by (N := NN__law_same) (sc := defScope s__law_same) (by decide +kernel)) (fun _ _ _ _ _ => ((ptg_tup (n := 2) rfl (ptgs_cons (ptg_name (i := 2) sc__law_same.nd) (ptgs_cons (ptg_name (i := 3) sc__law_same.nd) ptgs_nil)))).lift) (fun _ _ _ _ _ => (ppts_nil).lift) (fun _ _ _ _ _ => ((ppe_frz (ppc_callA O__law_same hr (by rfl) Z.m__law_same Z.F__law_same.kp Z.b__law_same (ppa_cons (ppe_var 2) (ppa_cons (ppe_var 3) ppa_nil))))).lift)) ppa_nil))))))))
    ppss_nil)
    (ppss_cons (pps_if (PPW.ppt (ppw_or (ppt_cmp cm_isN (ppe_var 1) ppe_non (nomark _)) (ppw_or1 (ppt_val (ppe_isi2 isT_bool isT_str (by rfl) Z.z_isinstance (by rfl) Z.z_bool (by rfl) Z.z_str (ppe_var 1))))))
    (ppss_one (pps_ret (ppc_val (ppe_and (ppe_cmp (cm_eq (hu64 hr)) (ppe_var 0) (ppe_var 1) (nomark _)) (ppe_and (ppe_cmp (cm_eq (hu64 hr)) (ppe_isi isT_bool (by rfl) Z.z_isinstance (by rfl) Z.z_bool (ppe_var 0)) (ppe_isi isT_bool (by rfl) Z.z_isinstance (by rfl) Z.z_bool (ppe_var 1)) (nomark _)) (ppe_one (ppe_cmp (cm_eq (hu64 hr)) (ppe_cmp cm_isN (ppe_var 0) ppe_non (nomark _)) (ppe_cmp cm_isN (ppe_var 1) ppe_non (nomark _)) (nomark _))))))))
    ppss_nil)
    (ppss_one (pps_ret (ppc_val (ppe_and (ppe_isi isT_int (by rfl) Z.z_isinstance (by rfl) Z.z_int (ppe_var 0)) (ppe_and (ppe_not (ppe_isi isT_bool (by rfl) Z.z_isinstance (by rfl) Z.z_bool (ppe_var 0))) (ppe_one (ppe_cmp (cm_eq (hu64 hr)) (ppe_var 0) (ppe_var 1) (nomark _))))))))))⟩
set_option maxHeartbeats 4000000 in
theorem bd__law_blown {k : Nat} : ∀ (cdv : Value) (A : Around) (outer : List Env) (s : Shared) (H : Hp) (E : XK), Room k (A.deeper (envOfC "_law_blown" (defScope s__law_blown) s.heap.objs.size Z.f__law_blown cdv)) → ∃ t, PPSs (cxOf CX0 P w K mg base NN__law_blown "_law_blown" (defScope s__law_blown) Z.f__law_blown cdv A outer s H E).nox (defBody s__law_blown) t (T__law_blown) :=
  fun cdv A outer s H E hr => ⟨_, (ppss_cons (pps_asg (ppe_var 1) (ptg_tup (n := 2) rfl (ptgs_cons (ptg_name (i := 2) sc__law_blown.nd) (ptgs_cons (ptg_name (i := 3) sc__law_blown.nd) ptgs_nil))))
    (ppss_cons (pps_set (i := 4) sc__law_blown.nd (ppc_lst ppa_nil))
    (ppss_cons (pps_for PassesOwn.never rfl (ppi_range1 (by rfl) Z.z_range (ppa_cons (ppe_lenO 0 (by rfl) Z.z_len) ppa_nil)) (ptg_name (i := 5) sc__law_blown.nd)
    (ppss_one (pps_if (ppt_cmp (cm_eq (hu64 hr)) (ppe_var 2) ppe_str (nomark _))
    (ppss_one (pps_append 4 (ppe_callB (cr_minA rfl (hu64 hr)) cp_best (by rfl) Z.z_min (by decide +kernel) (ppa_cons (ppe_lcL (own := [("_law_j", 6)]) rfl sc__law_blown.nd (ppi_range1 (by rfl) Z.z_range (ppa_cons (ppe_lenO 0 (by rfl) Z.z_len) ppa_nil)) (blkOk_by (N := NN__law_blown) (sc := defScope s__law_blown) (by decide +kernel)) (fun _ _ _ _ _ => ((ptg_name (i := 6) sc__law_blown.nd)).lift) (fun _ _ _ _ _ => (ppts_nil).lift) (fun _ _ _ _ _ => ((ppe_add (ppe_ixO 0 (ppe_var 6)) (ppe_mul (ppe_var 3) (ppe_callB call_abs cp_abs (by rfl) Z.z_abs (by decide +kernel) (ppa_cons (ppe_sub (ppe_var 5) (ppe_var 6)) ppa_nil))))).lift)) ppa_nil))))
    (ppss_one (pps_append 4 (ppe_callB (cr_maxA rfl (hu64 hr)) cp_best (by rfl) Z.z_max (by decide +kernel) (ppa_cons (ppe_lcL (own := [("_law_j", 6)]) rfl sc__law_blown.nd (ppi_range1 (by rfl) Z.z_range (ppa_cons (ppe_lenO 0 (by rfl) Z.z_len) ppa_nil)) (blkOk_by (N := NN__law_blown) (sc := defScope s__law_blown) (by decide +kernel)) (fun _ _ _ _ _ => ((ptg_name (i := 6) sc__law_blown.nd)).lift) (fun _ _ _ _ _ => (ppts_nil).lift) (fun _ _ _ _ _ => ((ppe_sub (ppe_ixO 0 (ppe_var 6)) (ppe_mul (ppe_var 3) (ppe_callB call_abs cp_abs (by rfl) Z.z_abs (by decide +kernel) (ppa_cons (ppe_sub (ppe_var 5) (ppe_var 6)) ppa_nil))))).lift)) ppa_nil)))))))
    (ppss_one (pps_ret (ppc_val (ppe_callTy call_tuple_of cp_tup (by rfl) Z.z_tuple (by decide +kernel) (ppa_cons (ppe_var 4) ppa_nil))))))))⟩
set_option maxHeartbeats 4000000 in
theorem bd__law_behind {k : Nat} {g__law_blown : FA} (O__law_blown : FnOk P w K mg base CX0 k Z.f__law_blown Z.fd__law_blown [("_law_dune_here" : Str), ("_law_wind" : Str)] (spA K 2 g__law_blown)) : ∀ (cdv : Value) (A : Around) (outer : List Env) (s : Shared) (H : Hp) (E : XK), Room k (A.deeper (envOfC "_law_behind" (defScope s__law_behind) s.heap.objs.size Z.f__law_behind cdv)) → ∃ t, PPSs (cxOf CX0 P w K mg base NN__law_behind "_law_behind" (defScope s__law_behind) Z.f__law_behind cdv A outer s H E).nox (defBody s__law_behind) t (T__law_behind g__law_blown) :=
  fun cdv A outer s H E hr => ⟨_, (ppss_cons (pps_for PassesOwn.never rfl (ppi_seq (ppe_var 1)) (ptg_name (i := 2) sc__law_behind.nd)
    (ppss_one (pps_set (i := 0) sc__law_behind.nd (ppc_callA O__law_blown hr (by rfl) Z.m__law_blown Z.F__law_blown.kp Z.b__law_blown (ppa_cons (ppe_var 0) (ppa_cons (ppe_var 2) ppa_nil))))))
    (ppss_one (pps_ret (ppc_val (ppe_callTy call_tuple_of cp_tup (by rfl) Z.z_tuple (by decide +kernel) (ppa_cons (ppe_var 0) ppa_nil))))))⟩
set_option maxHeartbeats 4000000 in
theorem bd__law_dune {k : Nat} {g__law_take : FB} (O__law_take : FnOk P w K mg base CX0 k Z.f__law_take Z.fd__law_take [("_law_box_here" : Str), ("_law_size" : Str)] (spB K 2 g__law_take)) : ∀ (cdv : Value) (A : Around) (outer : List Env) (s : Shared) (H : Hp) (E : XK), Room k (A.deeper (envOfC "_law_dune" (defScope s__law_dune) s.heap.objs.size Z.f__law_dune cdv)) → ∃ t, PPSs (cxOf CX0 P w K mg base NN__law_dune "_law_dune" (defScope s__law_dune) Z.f__law_dune cdv A outer s H E).nox (defBody s__law_dune) t (T__law_dune g__law_take) :=
  fun cdv A outer s H E hr => ⟨_, (ppss_cons (pps_par (i := 2) (j := 3) rfl sc__law_dune.nd (ppa_cons (ppe_add ppe_int (ppe_frz (ppc_callB 0 O__law_take hr (by rfl) Z.m__law_take Z.F__law_take.kp Z.b__law_take (ppa_cons (ppe_var 1) ppa_nil)))) (ppa_cons (ppe_ix (ppe_lst (ppa_cons ppe_int (ppa_cons ppe_int (ppa_cons ppe_int (ppa_cons (ppe_powc 1000000000) ppa_nil))))) (ppe_frz (ppc_callB 0 O__law_take hr (by rfl) Z.m__law_take Z.F__law_take.kp Z.b__law_take (ppa_cons ppe_int ppa_nil)))) ppa_nil)))
    (ppss_cons (pps_set (i := 4) sc__law_dune.nd (ppc_lst ppa_nil))
    (ppss_cons (pps_for PassesOwn.never rfl (ppi_range1 (by rfl) Z.z_range (ppa_cons (ppe_var 2) ppa_nil)) (ptg_name (i := 5) sc__law_dune.nd)
    (ppss_one (pps_append 4 (ppe_ix (ppe_lst (ppa_cons ppe_int (ppa_cons (ppe_var 3) (ppa_cons (ppe_sub (ppe_frz (ppc_callB 0 O__law_take hr (by rfl) Z.m__law_take Z.F__law_take.kp Z.b__law_take (ppa_cons (ppe_add (ppe_mul ppe_int (ppe_var 3)) ppe_int) ppa_nil))) (ppe_var 3)) (ppa_cons (ppe_frz (ppc_callB 0 O__law_take hr (by rfl) Z.m__law_take Z.F__law_take.kp Z.b__law_take (ppa_cons (ppe_add (ppe_var 3) ppe_int) ppa_nil))) ppa_nil))))) (ppe_frz (ppc_callB 0 O__law_take hr (by rfl) Z.m__law_take Z.F__law_take.kp Z.b__law_take (ppa_cons ppe_int ppa_nil)))))))
    (ppss_one (pps_ret (ppc_val (ppe_callTy call_tuple_of cp_tup (by rfl) Z.z_tuple (by decide +kernel) (ppa_cons (ppe_var 4) ppa_nil))))))))⟩
set_option maxHeartbeats 4000000 in
theorem bd__law_slope {k : Nat} {g__law_take : FB} (O__law_take : FnOk P w K mg base CX0 k Z.f__law_take Z.fd__law_take [("_law_box_here" : Str), ("_law_size" : Str)] (spB K 2 g__law_take)) : ∀ (cdv : Value) (A : Around) (outer : List Env) (s : Shared) (H : Hp) (E : XK), Room k (A.deeper (envOfC "_law_slope" (defScope s__law_slope) s.heap.objs.size Z.f__law_slope cdv)) → ∃ t, PPSs (cxOf CX0 P w K mg base NN__law_slope "_law_slope" (defScope s__law_slope) Z.f__law_slope cdv A outer s H E).nox (defBody s__law_slope) t (T__law_slope g__law_take) :=
  fun cdv A outer s H E hr => ⟨_, (ppss_one (pps_ret (ppc_callB 0 O__law_take hr (by rfl) Z.m__law_take Z.F__law_take.kp Z.b__law_take (ppa_cons (ppe_ix (ppe_lst (ppa_cons ppe_int (ppa_cons ppe_int (ppa_cons ppe_int (ppa_cons (ppe_powc 1000000000) ppa_nil))))) (ppe_frz (ppc_callB 0 O__law_take hr (by rfl) Z.m__law_take Z.F__law_take.kp Z.b__law_take (ppa_cons ppe_int ppa_nil)))) ppa_nil))))⟩
set_option maxHeartbeats 4000000 in
theorem bd__law_books {k : Nat} {g__law_take : FB} (O__law_take : FnOk P w K mg base CX0 k Z.f__law_take Z.fd__law_take [("_law_box_here" : Str), ("_law_size" : Str)] (spB K 2 g__law_take)) {g__law_slope : FB} (O__law_slope : FnOk P w K mg base CX0 k Z.f__law_slope Z.fd__law_slope [("_law_box_here" : Str)] (spB K 1 g__law_slope)) : ∀ (cdv : Value) (A : Around) (outer : List Env) (s : Shared) (H : Hp) (E : XK), Room k (A.deeper (envOfC "_law_books" (defScope s__law_books) s.heap.objs.size Z.f__law_books cdv)) → ∃ t, PPSs (cxOf CX0 P w K mg base NN__law_books "_law_books" (defScope s__law_books) Z.f__law_books cdv A outer s H E).nox (defBody s__law_books) t (T__law_books g__law_take g__law_slope) :=
  fun cdv A outer s H E hr => ⟨_, (ppss_cons (pps_parC3 (i := 2) (j := 3) (l := 4) rfl sc__law_books.nd (ppcs_cons (ppc_lst ppa_nil) (ppcs_cons (ppc_lst ppa_nil) (ppcs_cons (ppc_callB 0 O__law_take hr (by rfl) Z.m__law_take Z.F__law_take.kp Z.b__law_take (ppa_cons ppe_int ppa_nil)) ppcs_nil))))
    (ppss_cons (pps_if (ppt_cmp (cm_eq (hu64 hr)) (ppe_var 4) ppe_int (nomark _))
    (ppss_cons (pps_set (i := 5) sc__law_books.nd (ppc_val (ppe_add ppe_int (ppe_frz (ppc_callB 0 O__law_take hr (by rfl) Z.m__law_take Z.F__law_take.kp Z.b__law_take (ppa_cons ppe_int ppa_nil))))))
    (ppss_cons (pps_for PassesOwn.never rfl (ppi_range1 (by rfl) Z.z_range (ppa_cons (ppe_frz (ppc_callB 0 O__law_take hr (by rfl) Z.m__law_take Z.F__law_take.kp Z.b__law_take (ppa_cons (ppe_add (ppe_mul ppe_int (ppe_var 1)) ppe_int) ppa_nil))) ppa_nil)) (ptg_name (i := 6) sc__law_books.nd)
    (ppss_cons (pps_set (i := 7) sc__law_books.nd (ppc_val (ppe_ix (ppe_lst (ppa_cons (ppe_adr 2) (ppa_cons (ppe_adr 3) ppa_nil))) (ppe_mod (ppe_add (ppe_var 6) (ppe_mul (ppe_frz (ppc_callB 0 O__law_take hr (by rfl) Z.m__law_take Z.F__law_take.kp Z.b__law_take (ppa_cons ppe_int ppa_nil))) (ppe_frz (ppc_callB 0 O__law_take hr (by rfl) Z.m__law_take Z.F__law_take.kp Z.b__law_take (ppa_cons ppe_int ppa_nil))))) ppe_int))))
    (ppss_cons (pps_appendA 7 [2, 3] (ppe_var 5))
    (ppss_one (pps_set (i := 5) sc__law_books.nd (ppc_val (ppe_callB (call_max2 rfl) cp_max2 (by rfl) Z.z_max (by decide +kernel) (ppa_cons ppe_int (ppa_cons (ppe_sub (ppe_sub (ppe_var 5) ppe_int) (ppe_frz (ppc_callB 0 O__law_take hr (by rfl) Z.m__law_take Z.F__law_take.kp Z.b__law_take (ppa_cons ppe_int ppa_nil)))) ppa_nil)))))))))
    (ppss_one (pps_ret (ppc_val (ppe_tup (ppa_cons (ppe_slice (ppe_var 2) ppo_none (ppo_some (ppe_var 1))) (ppa_cons (ppe_slice (ppe_var 3) ppo_none (ppo_some (ppe_var 1))) ppa_nil))))))))
    ppss_nil)
    (ppss_cons (pps_for PassesOwn.never rfl (ppi_seq (ppe_tup (ppa_cons (ppe_adr 2) (ppa_cons (ppe_adr 3) ppa_nil)))) (ptg_name (i := 7) sc__law_books.nd)
    (ppss_one (pps_for PassesOwn.never rfl (ppi_range1 (by rfl) Z.z_range (ppa_cons (ppe_frz (ppc_callB 0 O__law_take hr (by rfl) Z.m__law_take Z.F__law_take.kp Z.b__law_take (ppa_cons (ppe_add (ppe_var 1) ppe_int) ppa_nil))) ppa_nil)) (ptg_name (i := 6) sc__law_books.nd)
    (ppss_one (pps_appendA 7 [2, 3] (ppe_ifExp (ppt_cmp cm_lt (ppe_var 4) ppe_int (nomark _)) (ppe_frz (ppc_callB 0 O__law_slope hr (by rfl) Z.m__law_slope Z.F__law_slope.kp Z.b__law_slope ppa_nil)) (ppe_frz (ppc_callB 0 O__law_take hr (by rfl) Z.m__law_take Z.F__law_take.kp Z.b__law_take (ppa_cons ppe_int ppa_nil)))))))))
    (ppss_one (pps_ret (ppc_val (ppe_tup (ppa_cons (ppe_var 2) (ppa_cons (ppe_var 3) ppa_nil)))))))))⟩
set_option maxHeartbeats 4000000 in
theorem bd__law_orders {k : Nat} {g__law_orders : FA} (O__law_orders : FnOk P w K mg base CX0 k Z.f__law_orders Z.fd__law_orders [("_law_cuts" : Str), ("_law_fills" : Str)] (spA K 2 g__law_orders)) : ∀ (cdv : Value) (A : Around) (outer : List Env) (s : Shared) (H : Hp) (E : XK), Room k (A.deeper (envOfC "_law_orders" (defScope s__law_orders) s.heap.objs.size Z.f__law_orders cdv)) → ∃ t, PPSs (cxOf CX0 P w K mg base NN__law_orders "_law_orders" (defScope s__law_orders) Z.f__law_orders cdv A outer s H E).nox (defBody s__law_orders) t (T__law_orders g__law_orders) :=
  fun cdv A outer s H E hr => ⟨_, (ppss_cons (pps_if (PPW.ppt (ppw_or (ppt_cmp (cm_eq (hu64 hr)) (ppe_var 0) ppe_int (nomark _)) (ppw_or1 (ppt_cmp (cm_eq (hu64 hr)) (ppe_var 1) ppe_int (nomark _)))))
    (ppss_one (pps_ret (ppc_lst (ppa_cons (ppe_add (ppe_mulS ppe_str (ppe_var 0)) (ppe_mulS ppe_str (ppe_var 1))) ppa_nil))))
    ppss_nil)
    (ppss_one (pps_ret (ppc_cat (ppe_lcL (own := [("_law_text", 2)]) rfl sc__law_orders.nd (ppi_seq (ppe_frz (ppc_callA O__law_orders hr (by rfl) Z.m__law_orders Z.F__law_orders.kp Z.b__law_orders (ppa_cons (ppe_sub (ppe_var 0) ppe_int) (ppa_cons (ppe_var 1) ppa_nil))))) (blkOk_by (N := NN__law_orders) (sc := defScope s__law_orders) (by decide +kernel)) (fun _ _ _ _ _ => ((ptg_name (i := 2) sc__law_orders.nd)).lift) (fun _ _ _ _ _ => (ppts_nil).lift) (fun _ _ _ _ _ => ((ppe_add ppe_str (ppe_var 2))).lift)) (ppe_lcL (own := [("_law_text", 2)]) rfl sc__law_orders.nd (ppi_seq (ppe_frz (ppc_callA O__law_orders hr (by rfl) Z.m__law_orders Z.F__law_orders.kp Z.b__law_orders (ppa_cons (ppe_var 0) (ppa_cons (ppe_sub (ppe_var 1) ppe_int) ppa_nil))))) (blkOk_by (N := NN__law_orders) (sc := defScope s__law_orders) (by decide +kernel)) (fun _ _ _ _ _ => ((ptg_name (i := 2) sc__law_orders.nd)).lift) (fun _ _ _ _ _ => (ppts_nil).lift) (fun _ _ _ _ _ => ((ppe_add ppe_str (ppe_var 2))).lift))))))⟩
set_option maxHeartbeats 4000000 in
theorem bd__law_almanac {k : Nat} : ∀ (cdv : Value) (A : Around) (outer : List Env) (s : Shared) (H : Hp) (E : XK), Room k (A.deeper (envOfC "_law_almanac" (defScope s__law_almanac) s.heap.objs.size Z.f__law_almanac cdv)) → ∃ t, PPSs (cxOf CX0 P w K mg base NN__law_almanac "_law_almanac" (defScope s__law_almanac) Z.f__law_almanac cdv A outer s H E).nox (defBody s__law_almanac) t (T__law_almanac) :=
  fun cdv A outer s H E hr => ⟨_, (ppss_cons (pps_parC3 (i := 3) (j := 4) (l := 5) rfl sc__law_almanac.nd (ppcs_cons (ppc_list (by rfl) Z.z_list (ppa_cons (ppe_var 0) ppa_nil)) (ppcs_cons (ppc_list (by rfl) Z.z_list (ppa_cons (ppe_var 1) ppa_nil)) (ppcs_cons (ppc_lst ppa_nil) ppcs_nil))))
    (ppss_cons (pps_for PassesOwn.never rfl (ppi_str (ppe_var 2)) (ptg_name (i := 6) sc__law_almanac.nd)
    (ppss_one (pps_append 5 (ppe_ifExp (ppt_cmp (cm_eq (hu64 hr)) (ppe_var 6) ppe_str (nomark _)) (ppe_tup (ppa_cons ppe_str (ppa_cons (ppe_pop 3 ppe_int) ppa_nil))) (ppe_tup (ppa_cons ppe_str (ppa_cons (ppe_pop 4 ppe_int) ppa_nil)))))))
    (ppss_one (pps_ret (ppc_move 5)))))⟩
set_option maxHeartbeats 4000000 in
theorem bd__law_order {k : Nat} {g__law_take : FB} (O__law_take : FnOk P w K mg base CX0 k Z.f__law_take Z.fd__law_take [("_law_box_here" : Str), ("_law_size" : Str)] (spB K 2 g__law_take)) : ∀ (cdv : Value) (A : Around) (outer : List Env) (s : Shared) (H : Hp) (E : XK), Room k (A.deeper (envOfC "_law_order" (defScope s__law_order) s.heap.objs.size Z.f__law_order cdv)) → ∃ t, PPSs (cxOf CX0 P w K mg base NN__law_order "_law_order" (defScope s__law_order) Z.f__law_order cdv A outer s H E).nox (defBody s__law_order) t (T__law_order g__law_take) :=
  fun cdv A outer s H E hr => ⟨_, (ppss_cons (pps_parC (i := 3) (j := 4) rfl sc__law_order.nd (ppcs_cons (ppc_cat (ppe_rep (ppe_lst (ppa_cons ppe_str ppa_nil)) (ppe_var 1)) (ppe_rep (ppe_lst (ppa_cons ppe_str ppa_nil)) (ppe_var 2))) (ppcs_cons (ppc_val ppe_str) ppcs_nil)))
    (ppss_cons (pps_for PassesOwn.never rfl (ppi_range1 (by rfl) Z.z_range (ppa_cons (ppe_add (ppe_var 1) (ppe_var 2)) ppa_nil)) (ptg_name (i := 5) sc__law_order.nd)
    (ppss_one (pps_set (i := 4) sc__law_order.nd (ppc_val (ppe_add (ppe_var 4) (ppe_pop 3 (ppe_frz (ppc_callB 0 O__law_take hr (by rfl) Z.m__law_take Z.F__law_take.kp Z.b__law_take (ppa_cons (ppe_lenO 3 (by rfl) Z.z_len) ppa_nil)))))))))
    (ppss_one (pps_ret (ppc_move 4)))))⟩
set_option maxHeartbeats 4000000 in
theorem bd__law_has {k : Nat} : ∀ (cdv : Value) (A : Around) (outer : List Env) (s : Shared) (H : Hp) (E : XK), Room k (A.deeper (envOfC "_law_has" (defScope s__law_has) s.heap.objs.size Z.f__law_has cdv)) → ∃ t, PPSs (cxOf CX0 P w K mg base NN__law_has "_law_has" (defScope s__law_has) Z.f__law_has cdv A outer s H E).nox (defBody s__law_has) t (T__law_has) :=
  fun cdv A outer s H E hr => ⟨_, (ppss_cons (pps_asg (ppe_var 1) (ptg_tup (n := 3) rfl (ptgs_cons (ptg_name (i := 2) sc__law_has.nd) (ptgs_cons (ptg_name (i := 3) sc__law_has.nd) (ptgs_cons (ptg_name (i := 4) sc__law_has.nd) ptgs_nil)))))
    (ppss_cons (pps_setLcV (i := 7) (own := [("_law_k", 5), ("_law_letter", 6)]) rfl sc__law_has.nd (ppi_es (by rfl) Z.z_enumerate (ppa_cons (ppe_var 0) ppa_nil)) (blkOk_by (N := NN__law_has) (sc := defScope s__law_has) (by decide +kernel)) (fun _ _ _ _ _ => ((ptg_tup (n := 2) rfl (ptgs_cons (ptg_name (i := 5) sc__law_has.nd) (ptgs_cons (ptg_name (i := 6) sc__law_has.nd) ptgs_nil)))).lift) (fun _ _ _ _ _ => ((ppts_one (ppt_cmp (cm_eq (hu64 hr)) (ppe_var 6) ppe_str (nomark _)))).lift) (fun _ _ _ _ _ => ((ppe_var 5)).lift))
    (ppss_cons (pps_setLcV (i := 8) (own := [("_law_k", 5), ("_law_letter", 6)]) rfl sc__law_has.nd (ppi_es (by rfl) Z.z_enumerate (ppa_cons (ppe_var 0) ppa_nil)) (blkOk_by (N := NN__law_has) (sc := defScope s__law_has) (by decide +kernel)) (fun _ _ _ _ _ => ((ptg_tup (n := 2) rfl (ptgs_cons (ptg_name (i := 5) sc__law_has.nd) (ptgs_cons (ptg_name (i := 6) sc__law_has.nd) ptgs_nil)))).lift) (fun _ _ _ _ _ => ((ppts_one (ppt_cmp (cm_eq (hu64 hr)) (ppe_var 6) ppe_str (nomark _)))).lift) (fun _ _ _ _ _ => ((ppe_var 5)).lift))
    (ppss_one (pps_ret (ppc_val (ppe_cmp (cm_eq (hu64 hr)) (ppe_cmp cm_lt (ppe_ixO 7 (ppe_var 3)) (ppe_ixO 8 (ppe_var 4)) (nomark _)) (ppe_cmp (cm_eq (hu64 hr)) (ppe_var 2) ppe_str (nomark _)) (nomark _))))))))⟩
set_option maxHeartbeats 4000000 in
theorem bd__law_words {k : Nat} {g__law_take : FB} (O__law_take : FnOk P w K mg base CX0 k Z.f__law_take Z.fd__law_take [("_law_box_here" : Str), ("_law_size" : Str)] (spB K 2 g__law_take)) {g__law_has : FA} (O__law_has : FnOk P w K mg base CX0 k Z.f__law_has Z.fd__law_has [("_law_order_here" : Str), ("_law_word" : Str)] (spA K 2 g__law_has)) : ∀ (cdv : Value) (A : Around) (outer : List Env) (s : Shared) (H : Hp) (E : XK), Room k (A.deeper (envOfC "_law_words" (defScope s__law_words) s.heap.objs.size Z.f__law_words cdv)) → ∃ t, PPSs (cxOf CX0 P w K mg base NN__law_words "_law_words" (defScope s__law_words) Z.f__law_words cdv A outer s H E).nox (defBody s__law_words) t (T__law_words g__law_take g__law_has) :=
  fun cdv A outer s H E hr => ⟨_, (ppss_cons (pps_par (i := 3) (j := 4) rfl sc__law_words.nd (ppa_cons (ppe_count (ppe_var 1) ppe_str) (ppa_cons (ppe_count (ppe_var 1) ppe_str) ppa_nil)))
    (ppss_cons (pps_parC (i := 5) (j := 6) rfl sc__law_words.nd (ppcs_cons (ppc_lst ppa_nil) (ppcs_cons (ppc_val (ppe_cmp (cm_eq (hu64 hr)) (ppe_frz (ppc_callB 0 O__law_take hr (by rfl) Z.m__law_take Z.F__law_take.kp Z.b__law_take (ppa_cons ppe_int ppa_nil))) ppe_int (nomark _))) ppcs_nil)))
    (ppss_cons (pps_for PassesOwn.never rfl (ppi_range1 (by rfl) Z.z_range (ppa_cons (ppe_mul (ppe_frz (ppc_callB 0 O__law_take hr (by rfl) Z.m__law_take Z.F__law_take.kp Z.b__law_take (ppa_cons (ppe_add (ppe_var 2) ppe_int) ppa_nil))) (ppe_callTy call_int1 cp_int1 (by rfl) Z.z_int (by decide +kernel) (ppa_cons (ppe_and (ppe_cmp cm_gt (ppe_var 3) ppe_int (nomark _)) (ppe_one (ppe_cmp cm_gt (ppe_var 4) ppe_int (nomark _)))) ppa_nil))) ppa_nil)) (ptg_name (i := 7) sc__law_words.nd)
    (ppss_cons (pps_set (i := 8) sc__law_words.nd (ppc_val (ppe_tup (ppa_cons ppe_str (ppa_cons (ppe_frz (ppc_callB 0 O__law_take hr (by rfl) Z.m__law_take Z.F__law_take.kp Z.b__law_take (ppa_cons (ppe_var 3) ppa_nil))) (ppa_cons (ppe_frz (ppc_callB 0 O__law_take hr (by rfl) Z.m__law_take Z.F__law_take.kp Z.b__law_take (ppa_cons (ppe_var 4) ppa_nil))) ppa_nil))))))
    (ppss_cons (pps_if (PPW.ppt (ppw_or (ppt_not (ppt_val (ppe_frz (ppc_callA O__law_has hr (by rfl) Z.m__law_has Z.F__law_has.kp Z.b__law_has (ppa_cons (ppe_var 1) (ppa_cons (ppe_var 8) ppa_nil)))))) (ppw_or1 (PPW.ppt (ppw_and (ppt_val (ppe_var 6)) (ppw_and1 (ppt_cmp (cm_eq (hu64 hr)) (ppe_frz (ppc_callB 0 O__law_take hr (by rfl) Z.m__law_take Z.F__law_take.kp Z.b__law_take (ppa_cons ppe_int ppa_nil))) ppe_int (nomark _))))))))
    (ppss_one (pps_set (i := 8) sc__law_words.nd (ppc_val (ppe_tup (ppa_cons ppe_str (ppa_cons (ppe_ixO 8 ppe_int) (ppa_cons (ppe_ixO 8 ppe_int) ppa_nil)))))))
    ppss_nil)
    (ppss_one (pps_append 5 (ppe_var 8))))))
    (ppss_one (pps_ret (ppc_move 5))))))⟩
set_option maxHeartbeats 4000000 in
theorem bd__law_told {k : Nat} {g_is_enough : FA} (O_is_enough : FnOk P w K mg base CX0 k Z.f_is_enough Z.fd_is_enough [("dune" : Str), ("cuts" : Str), ("fills" : Str), ("words" : Str)] (spA K 4 g_is_enough)) {gx_is_enough : FX} (OX_is_enough : FnOk P w K mg base (L2.CX P w) k Z.f_is_enough Z.fd_is_enough [("dune" : Str), ("cuts" : Str), ("fills" : Str), ("words" : Str)] (spX K 4 gx_is_enough)) : ∀ (cdv : Value) (A : Around) (outer : List Env) (s : Shared) (H : Hp) (E : XK), Room k (A.deeper (envOfC "_law_told" (defScope s__law_told) s.heap.objs.size Z.f__law_told cdv)) → ∃ t, PPSs (cxOf CX0 P w K mg base NN__law_told "_law_told" (defScope s__law_told) Z.f__law_told cdv A outer s H E).nox (defBody s__law_told) t (T__law_told g_is_enough gx_is_enough) :=
  fun cdv A outer s H E hr => ⟨_, (ppss_cons (pps_asg (ppe_tup (ppa_cons ppe_non (ppa_cons ppe_non ppa_nil))) (ptg_tup (n := 2) rfl (ptgs_cons (ptg_name (i := 4) sc__law_told.nd) (ptgs_cons (ptg_name (i := 5) sc__law_told.nd) ptgs_nil))))
    (ppss_cons (pps_try (i := 6) (j := 4) (cs := [("Against" : Str), ("Clash" : Str), ("Unlike" : Str)]) rfl rfl rfl sc__law_told.nd rfl rfl rfl rfl (fun W pn xe tk po => ((pxss_one (pxs_or (pps_set (i := 5) sc__law_told.nd (ppc_callA O_is_enough hr (by rfl) Z.m_is_enough Z.F_is_enough.kp Z.b_is_enough (ppa_cons (ppe_var 0) (ppa_cons (ppe_var 1) (ppa_cons (ppe_var 2) (ppa_cons (ppe_var 3) ppa_nil))))))
    (pxs_set (i := 5) sc__law_told.nd (pxe_call OX_is_enough tk hr (by rfl) Z.m_is_enough Z.F_is_enough.kp Z.b_is_enough (ppa_cons (ppe_var 0) (ppa_cons (ppe_var 1) (ppa_cons (ppe_var 2) (ppa_cons (ppe_var 3) ppa_nil))))))))).lift)
    (hit3 Z.x_Against Z.x_Clash Z.x_Unlike (by rfl) (by rfl) (by rfl)))
    (ppss_cons (pps_if (ppt_cmp cm_isN (ppe_var 4) ppe_non (nomark _))
    (ppss_one (pps_ret (ppc_move 5)))
    ppss_nil)
    (ppss_cons (pps_if (PPW.ppt (ppw_or (ppt_not (ppt_val (ppe_isX (xcs_cons Z.x_Against (xcs_cons Z.x_Clash (xcs_cons Z.x_Unlike xcs_nil))) (itx_own Z.x_Clash (by rfl)) (by rfl) Z.z_isinstance (ppe_var 4)))) (ppw_or (ppt_val (ppe_isX2 (xcs_cons Z.x_Against (xcs_cons Z.x_Clash (xcs_cons Z.x_Unlike xcs_nil))) (itx_own Z.x_Against (by rfl)) (itx_own Z.x_Unlike (by rfl)) (by rfl) Z.z_isinstance (ppe_var 4))) (ppw_or1 (ppt_not (ppt_val (ppe_isX (xcs_cons Z.x_Against (xcs_cons Z.x_Clash (xcs_cons Z.x_Unlike xcs_nil))) (itx_blt (n := "ValueError") (by rfl) Z.z_ValueError) (by rfl) Z.z_isinstance (ppe_var 4))))))))
    (ppss_one (pps_ret (ppc_val ppe_str)))
    ppss_nil)
    (ppss_one (pps_ret (ppc_val (ppe_tup (ppa_cons ppe_str (ppa_cons (ppe_xf (xcs_cons Z.x_Against (xcs_cons Z.x_Clash (xcs_cons Z.x_Unlike xcs_nil))) (ppe_var 4)) ppa_nil))))))))))⟩
set_option maxHeartbeats 4000000 in
theorem bd__law_clash {k : Nat} {g__law_has : FA} (O__law_has : FnOk P w K mg base CX0 k Z.f__law_has Z.fd__law_has [("_law_order_here" : Str), ("_law_word" : Str)] (spA K 2 g__law_has)) : ∀ (cdv : Value) (A : Around) (outer : List Env) (s : Shared) (H : Hp) (E : XK), Room k (A.deeper (envOfC "_law_clash" (defScope s__law_clash) s.heap.objs.size Z.f__law_clash cdv)) → ∃ t, PPSs (cxOf CX0 P w K mg base NN__law_clash "_law_clash" (defScope s__law_clash) Z.f__law_clash cdv A outer s H E).nox (defBody s__law_clash) t (T__law_clash g__law_has) :=
  fun cdv A outer s H E hr => ⟨_, (ppss_cons (pps_for PassesOwn.never rfl (ppi_range1 (by rfl) Z.z_range (ppa_cons (ppe_lenO 1 (by rfl) Z.z_len) ppa_nil)) (ptg_name (i := 2) sc__law_clash.nd)
    (ppss_one (pps_for PassesOwn.never rfl (ppi_range2 (by rfl) Z.z_range (ppa_cons (ppe_add (ppe_var 2) ppe_int) (ppa_cons (ppe_lenO 1 (by rfl) Z.z_len) ppa_nil))) (ptg_name (i := 3) sc__law_clash.nd)
    (ppss_one (pps_if (ppt_not (ppt_val (ppe_callB (cr_any rfl) cp_any (by rfl) Z.z_any (by decide +kernel) (ppa_cons (ppe_lcL (own := [("_law_order_here", 4)]) rfl sc__law_clash.nd (ppi_seq (ppe_var 0)) (blkOk_by (N := NN__law_clash) (sc := defScope s__law_clash) (by decide +kernel)) (fun _ _ _ _ _ => ((ptg_name (i := 4) sc__law_clash.nd)).lift) (fun _ _ _ _ _ => (ppts_nil).lift) (fun _ _ _ _ _ => ((ppe_and (ppe_frz (ppc_callA O__law_has hr (by rfl) Z.m__law_has Z.F__law_has.kp Z.b__law_has (ppa_cons (ppe_var 4) (ppa_cons (ppe_ixO 1 (ppe_var 2)) ppa_nil)))) (ppe_one (ppe_frz (ppc_callA O__law_has hr (by rfl) Z.m__law_has Z.F__law_has.kp Z.b__law_has (ppa_cons (ppe_var 4) (ppa_cons (ppe_ixO 1 (ppe_var 3)) ppa_nil))))))).lift)) ppa_nil))))
    (ppss_one (pps_ret (ppc_val (ppe_tup (ppa_cons (ppe_var 2) (ppa_cons (ppe_var 3) ppa_nil))))))
    ppss_nil)))))
    (ppss_one (pps_ret (ppc_val ppe_non))))⟩
set_option maxHeartbeats 4000000 in
theorem bd__law_right {k : Nat} {g__law_same : FA} (O__law_same : FnOk P w K mg base CX0 k Z.f__law_same Z.fd__law_same [("_law_told_here" : Str), ("_law_due" : Str)] (spA K 2 g__law_same)) {g__law_behind : FA} (O__law_behind : FnOk P w K mg base CX0 k Z.f__law_behind Z.fd__law_behind [("_law_dune_here" : Str), ("_law_winds" : Str)] (spA K 2 g__law_behind)) {g__law_dune : FB} (O__law_dune : FnOk P w K mg base CX0 k Z.f__law_dune Z.fd__law_dune [("_law_box_here" : Str), ("_law_size" : Str)] (spB K 2 g__law_dune)) {g__law_books : FB} (O__law_books : FnOk P w K mg base CX0 k Z.f__law_books Z.fd__law_books [("_law_box_here" : Str), ("_law_size" : Str)] (spB K 2 g__law_books)) {g__law_orders : FA} (O__law_orders : FnOk P w K mg base CX0 k Z.f__law_orders Z.fd__law_orders [("_law_cuts" : Str), ("_law_fills" : Str)] (spA K 2 g__law_orders)) {g__law_almanac : FA} (O__law_almanac : FnOk P w K mg base CX0 k Z.f__law_almanac Z.fd__law_almanac [("_law_cuts" : Str), ("_law_fills" : Str), ("_law_order_here" : Str)] (spA K 3 g__law_almanac)) {g__law_order : FB} (O__law_order : FnOk P w K mg base CX0 k Z.f__law_order Z.fd__law_order [("_law_box_here" : Str), ("_law_cuts" : Str), ("_law_fills" : Str)] (spB K 3 g__law_order)) {g__law_has : FA} (O__law_has : FnOk P w K mg base CX0 k Z.f__law_has Z.fd__law_has [("_law_order_here" : Str), ("_law_word" : Str)] (spA K 2 g__law_has)) {g__law_words : FB} (O__law_words : FnOk P w K mg base CX0 k Z.f__law_words Z.fd__law_words [("_law_box_here" : Str), ("_law_order_here" : Str), ("_law_size" : Str)] (spB K 3 g__law_words)) {g__law_told : FA} (O__law_told : FnOk P w K mg base CX0 k Z.f__law_told Z.fd__law_told [("_law_dune_here" : Str), ("_law_cuts" : Str), ("_law_fills" : Str), ("_law_words_here" : Str)] (spA K 4 g__law_told)) {g__law_clash : FA} (O__law_clash : FnOk P w K mg base CX0 k Z.f__law_clash Z.fd__law_clash [("_law_orders_here" : Str), ("_law_words_here" : Str)] (spA K 2 g__law_clash)) : ∀ (cdv : Value) (A : Around) (outer : List Env) (s : Shared) (H : Hp) (E : XK), Room k (A.deeper (envOfC "_law_right" (defScope s__law_right) s.heap.objs.size Z.f__law_right cdv)) → ∃ t, PPSs (cxOf CX0 P w K mg base NN__law_right "_law_right" (defScope s__law_right) Z.f__law_right cdv A outer s H E).nox (defBody s__law_right) t (T__law_right g__law_same g__law_behind g__law_dune g__law_books g__law_orders g__law_almanac g__law_order g__law_has g__law_words g__law_told g__law_clash) :=
  fun cdv A outer s H E hr => ⟨_, (ppss_cons (pps_asg (ppe_tup (ppa_cons (ppe_frz (ppc_callB 0 O__law_dune hr (by rfl) Z.m__law_dune Z.F__law_dune.kp Z.b__law_dune (ppa_cons ppe_int ppa_nil))) (ppa_cons (ppe_frz (ppc_callB 0 O__law_books hr (by rfl) Z.m__law_books Z.F__law_books.kp Z.b__law_books (ppa_cons ppe_int ppa_nil))) ppa_nil))) (ptg_tup (n := 2) rfl (ptgs_cons (ptg_name (i := 1) sc__law_right.nd) (ptgs_cons (ptg_tup (n := 2) rfl (ptgs_cons (ptg_name (i := 2) sc__law_right.nd) (ptgs_cons (ptg_name (i := 3) sc__law_right.nd) ptgs_nil))) ptgs_nil))))
    (ppss_cons (pps_par (i := 4) (j := 5) rfl sc__law_right.nd (ppa_cons (ppe_frz (ppc_callA O__law_orders hr (by rfl) Z.m__law_orders Z.F__law_orders.kp Z.b__law_orders (ppa_cons (ppe_lenO 2 (by rfl) Z.z_len) (ppa_cons (ppe_lenO 3 (by rfl) Z.z_len) ppa_nil)))) (ppa_cons (ppe_frz (ppc_callB 0 O__law_order hr (by rfl) Z.m__law_order Z.F__law_order.kp Z.b__law_order (ppa_cons (ppe_lenO 2 (by rfl) Z.z_len) (ppa_cons (ppe_lenO 3 (by rfl) Z.z_len) ppa_nil)))) ppa_nil)))
    (ppss_cons (pps_for PassesOwn.never rfl (ppi_seq (ppe_tup (ppa_cons ppe_int (ppa_cons ppe_int (ppa_cons ppe_int ppa_nil))))) (ptg_name (i := 6) sc__law_right.nd)
    (ppss_cons (pps_set (i := 7) sc__law_right.nd (ppc_callB 0 O__law_words hr (by rfl) Z.m__law_words Z.F__law_words.kp Z.b__law_words (ppa_cons (ppe_var 5) (ppa_cons (ppe_var 6) ppa_nil))))
    (ppss_cons (pps_setLcV (i := 10) (own := [("_law_one", 8)]) rfl sc__law_right.nd (ppi_seq (ppe_var 4)) (blkOk_by (N := NN__law_right) (sc := defScope s__law_right) (by decide +kernel)) (fun _ _ _ _ _ => ((ptg_name (i := 8) sc__law_right.nd)).lift) (fun _ _ _ _ _ => ((ppts_one (ppt_val (ppe_callB (cr_all rfl) cp_all (by rfl) Z.z_all (by decide +kernel) (ppa_cons (ppe_lcL (own := [("_law_word", 9)]) rfl sc__law_right.nd (ppi_seq (ppe_var 7)) (by refine blkOk_by ?_; first | rfl | with_unfolding_all rfl) (fun _ _ _ _ _ => ((ptg_name (i := 9) sc__law_right.nd)).lift) (fun _ _ _ _ _ => (ppts_nil).lift) (fun _ _ _ _ _ => ((ppe_frz (ppc_callA O__law_has hr (by rfl) Z.m__law_has Z.F__law_has.kp Z.b__law_has (ppa_cons (ppe_var 8) (ppa_cons (ppe_var 9) ppa_nil))))).lift)) ppa_nil))))).lift) (fun _ _ _ _ _ => ((ppe_var 8)).lift))
    (ppss_cons (pps_setLcV (i := 11) (own := [("_law_one", 8)]) rfl sc__law_right.nd (ppi_seq (ppe_var 10)) (blkOk_by (N := NN__law_right) (sc := defScope s__law_right) (by decide +kernel)) (fun _ _ _ _ _ => ((ptg_name (i := 8) sc__law_right.nd)).lift) (fun _ _ _ _ _ => (ppts_nil).lift) (fun _ _ _ _ _ => ((ppe_frz (ppc_callA O__law_behind hr (by rfl) Z.m__law_behind Z.F__law_behind.kp Z.b__law_behind (ppa_cons (ppe_var 1) (ppa_cons (ppe_frz (ppc_callA O__law_almanac hr (by rfl) Z.m__law_almanac Z.F__law_almanac.kp Z.b__law_almanac (ppa_cons (ppe_var 2) (ppa_cons (ppe_var 3) (ppa_cons (ppe_var 8) ppa_nil))))) ppa_nil))))).lift))
    (ppss_cons (pps_set (i := 12) sc__law_right.nd (ppc_val (ppe_ifExp (ppt_cmp (cm_ne (hu64 hr)) (ppe_var 10) (ppe_lst ppa_nil) (nomark _)) (ppe_cmp (cm_eq (hu64 hr)) (ppe_var 11) (ppe_rep (ppe_slice (ppe_var 11) ppo_none (ppo_some ppe_int)) (ppe_lenO 11 (by rfl) Z.z_len)) (nomark _)) (ppe_tup (ppa_cons ppe_str (ppa_cons (ppe_frz (ppc_callA O__law_clash hr (by rfl) Z.m__law_clash Z.F__law_clash.kp Z.b__law_clash (ppa_cons (ppe_var 4) (ppa_cons (ppe_var 7) ppa_nil)))) ppa_nil))))))
    (ppss_cons (pps_setLcV (i := 13) (own := [("_law_one", 8)]) rfl sc__law_right.nd (ppi_seq (ppe_var 7)) (blkOk_by (N := NN__law_right) (sc := defScope s__law_right) (by decide +kernel)) (fun _ _ _ _ _ => ((ptg_name (i := 8) sc__law_right.nd)).lift) (fun _ _ _ _ _ => (ppts_nil).lift) (fun _ _ _ _ _ => ((ppe_callTy call_list_of cp_lst (by rfl) Z.z_list (by decide +kernel) (ppa_cons (ppe_var 8) ppa_nil))).lift))
    (ppss_cons (pps_set (i := 14) sc__law_right.nd (ppc_val (ppe_lst (ppa_cons (ppe_frz (ppc_callA O__law_told hr (by rfl) Z.m__law_told Z.F__law_told.kp Z.b__law_told (ppa_cons (ppe_var 1) (ppa_cons (ppe_var 2) (ppa_cons (ppe_var 3) (ppa_cons (ppe_var 7) ppa_nil)))))) (ppa_cons (ppe_frz (ppc_callA O__law_told hr (by rfl) Z.m__law_told Z.F__law_told.kp Z.b__law_told (ppa_cons (ppe_callTy call_list_of cp_lst (by rfl) Z.z_list (by decide +kernel) (ppa_cons (ppe_var 1) ppa_nil)) (ppa_cons (ppe_callTy call_tuple_of cp_tup (by rfl) Z.z_tuple (by decide +kernel) (ppa_cons (ppe_var 2) ppa_nil)) (ppa_cons (ppe_var 3) (ppa_cons (ppe_var 13) ppa_nil)))))) ppa_nil)))))
    (ppss_one (pps_if (ppt_not (ppt_val (ppe_frz (ppc_callA O__law_same hr (by rfl) Z.m__law_same Z.F__law_same.kp Z.b__law_same (ppa_cons (ppe_var 14) (ppa_cons (ppe_lst (ppa_cons (ppe_var 12) (ppa_cons (ppe_var 12) ppa_nil))) ppa_nil))))))
    (ppss_one (pps_ret (ppc_val ppe_bl)))
    ppss_nil)))))))))
    (ppss_one (pps_ret (ppc_val ppe_bl))))))⟩
set_option maxHeartbeats 4000000 in
theorem bd_law {k : Nat} {g__law_box : FA} (O__law_box : FnOk P w K mg base CX0 k Z.f__law_box Z.fd__law_box [("_law_script" : Str), ("_law_k" : Str)] (spA K 2 g__law_box)) {g__law_right : FB} (O__law_right : FnOk P w K mg base CX0 k Z.f__law_right Z.fd__law_right [("_law_box_here" : Str)] (spB K 1 g__law_right)) : ∀ (cdv : Value) (A : Around) (outer : List Env) (s : Shared) (H : Hp) (E : XK), Room k (A.deeper (envOfC "law" (defScope s_law) s.heap.objs.size Z.f_law cdv)) → ∃ t, PPSs (cxOf CX0 P w K mg base NN_law "law" (defScope s_law) Z.f_law cdv A outer s H E).nox (defBody s_law) t (T_law g__law_box g__law_right) :=
  fun cdv A outer s H E hr => ⟨_, (ppss_one (pps_ret (ppc_val (ppe_callB (cr_all rfl) cp_all (by rfl) Z.z_all (by decide +kernel) (ppa_cons (ppe_lcL (own := [("_law_k", 1)]) rfl sc_law.nd (ppi_range1 (by rfl) Z.z_range (ppa_cons (ppe_add ppe_int (ppe_callB (call_min2 rfl) cp_min2 (by rfl) Z.z_min (by decide +kernel) (ppa_cons ppe_int (ppa_cons (ppe_lenO 0 (by rfl) Z.z_len) ppa_nil)))) ppa_nil)) (blkOk_by (N := NN_law) (sc := defScope s_law) (by decide +kernel)) (fun _ _ _ _ _ => ((ptg_name (i := 1) sc_law.nd)).lift) (fun _ _ _ _ _ => (ppts_nil).lift) (fun _ _ _ _ _ => ((ppe_frz (ppc_callX O__law_right hr (by rfl) Z.m__law_right Z.F__law_right.kp Z.b__law_right (ppc_callA O__law_box hr (by rfl) Z.m__law_box Z.F__law_box.kp Z.b__law_box (ppa_cons (ppe_var 0) (ppa_cons (ppe_var 1) ppa_nil))) ppa_nil))).lift)) ppa_nil)))))⟩
set_option maxHeartbeats 4000000 in
theorem bdx_is_enough {k : Nat} {g_sure_posts : FA} (O_sure_posts : FnOk P w K mg base CX0 k Z.f_sure_posts Z.fd_sure_posts [("dune" : Str), ("cuts" : Str), ("fills" : Str), ("words" : Str)] (spA K 4 g_sure_posts)) {gx_sure_posts : FX} (OX_sure_posts : FnOk P w K mg base (L2.CX P w) k Z.f_sure_posts Z.fd_sure_posts [("dune" : Str), ("cuts" : Str), ("fills" : Str), ("words" : Str)] (spX K 4 gx_sure_posts)) : ∀ (cdv : Value) (A : Around) (outer : List Env) (s : Shared) (H : Hp) (E : XK), Room (k + 1) (A.deeper (envOfC "is_enough" (defScope s_is_enough) s.heap.objs.size Z.f_is_enough cdv)) → ∃ t, PXSs (cxOf (L2.CX P w) P w K mg base NN_is_enough "is_enough" (defScope s_is_enough) Z.f_is_enough cdv A outer s H E) (fun cls d _ H => E cls d H) (defBody s_is_enough) t (TX_is_enough g_sure_posts gx_sure_posts) :=
  fun cdv A outer s H E hr => ⟨_, (pxss_one (pxs_or (pps_ret (ppc_val (ppe_cmp (cm_eq (hu64 (hr.mono (Nat.le_succ _)))) (ppe_callB cr_lenA cp_len (by rfl) Z.z_len (by decide +kernel) (ppa_cons (ppe_frz (ppc_callA O_sure_posts (hr.mono (Nat.le_succ _)) (by rfl) Z.m_sure_posts Z.F_sure_posts.kp Z.b_sure_posts (ppa_cons (ppe_var 0) (ppa_cons (ppe_var 1) (ppa_cons (ppe_var 2) (ppa_cons (ppe_var 3) ppa_nil)))))) ppa_nil)) (ppe_lenO 0 (by rfl) Z.z_len) (nomark _))))
    (pxs_ret (pxe_cmp (cm_eq (hu64 (hr.mono (Nat.le_succ _)))) (pxe_argB cr_lenA (by rfl) Z.z_len (by decide +kernel) (pxa_here (pxe_call OX_sure_posts (takes_of rfl rfl rfl rfl) (hr.mono (Nat.le_succ _)) (by rfl) Z.m_sure_posts Z.F_sure_posts.kp Z.b_sure_posts (ppa_cons (ppe_var 0) (ppa_cons (ppe_var 1) (ppa_cons (ppe_var 2) (ppa_cons (ppe_var 3) ppa_nil))))) ppa_nil)) (ppe_lenO 0 (by rfl) Z.z_len) (nomark _)))))⟩
set_option maxHeartbeats 4000000 in
theorem bdx_sure_posts {k : Nat} {g_may_stand : FA} (O_may_stand : FnOk P w K mg base CX0 k Z.f_may_stand Z.fd_may_stand [("dune" : Str), ("cuts" : Str), ("fills" : Str), ("words" : Str)] (spA K 4 g_may_stand)) {gx_may_stand : FX} (OX_may_stand : FnOk P w K mg base (L2.CX P w) k Z.f_may_stand Z.fd_may_stand [("dune" : Str), ("cuts" : Str), ("fills" : Str), ("words" : Str)] (spX K 4 gx_may_stand)) : ∀ (cdv : Value) (A : Around) (outer : List Env) (s : Shared) (H : Hp) (E : XK), Room (k + 1) (A.deeper (envOfC "sure_posts" (defScope s_sure_posts) s.heap.objs.size Z.f_sure_posts cdv)) → ∃ t, PXSs (cxOf (L2.CX P w) P w K mg base NN_sure_posts "sure_posts" (defScope s_sure_posts) Z.f_sure_posts cdv A outer s H E) (fun cls d _ H => E cls d H) (defBody s_sure_posts) t (TX_sure_posts g_may_stand gx_may_stand) :=
  fun cdv A outer s H E hr => ⟨_, (pxss_cons (pxs_or (pps_asg (ppe_frz (ppc_callA O_may_stand (hr.mono (Nat.le_succ _)) (by rfl) Z.m_may_stand Z.F_may_stand.kp Z.b_may_stand (ppa_cons (ppe_var 0) (ppa_cons (ppe_var 1) (ppa_cons (ppe_var 2) (ppa_cons (ppe_var 3) ppa_nil)))))) (ptg_tup (n := 2) rfl (ptgs_cons (ptg_name (i := 4) sc_sure_posts.nd) (ptgs_cons (ptg_name (i := 5) sc_sure_posts.nd) ptgs_nil))))
    (pxs_asg (pxe_call OX_may_stand (takes_of rfl rfl rfl rfl) (hr.mono (Nat.le_succ _)) (by rfl) Z.m_may_stand Z.F_may_stand.kp Z.b_may_stand (ppa_cons (ppe_var 0) (ppa_cons (ppe_var 1) (ppa_cons (ppe_var 2) (ppa_cons (ppe_var 3) ppa_nil))))) (ptg_tup (n := 2) rfl (ptgs_cons (ptg_name (i := 4) sc_sure_posts.nd) (ptgs_cons (ptg_name (i := 5) sc_sure_posts.nd) ptgs_nil)))))
    (pxss_one (pxs_ok (pps_ret (ppc_lcL (own := [("post", 6), ("height", 7)]) rfl sc_sure_posts.nd (ppi_e (by rfl) Z.z_enumerate (ppa_cons (ppe_var 4) ppa_nil)) (blkOk_by (N := NN_sure_posts) (sc := defScope s_sure_posts) (by decide +kernel)) (fun _ _ _ _ _ => ((ptg_tup (n := 2) rfl (ptgs_cons (ptg_name (i := 6) sc_sure_posts.nd) (ptgs_cons (ptg_name (i := 7) sc_sure_posts.nd) ptgs_nil)))).lift) (fun _ _ _ _ _ => ((ppts_one (ppt_cmp (cm_eq (hu64 (hr.mono (Nat.le_succ _)))) (ppe_var 7) (ppe_ixO 5 (ppe_var 6)) (nomark _)))).lift) (fun _ _ _ _ _ => ((ppe_var 6)).lift))))))⟩
set_option maxHeartbeats 4000000 in
theorem bdx_may_stand {k : Nat} {g_behind : FA} (O_behind : FnOk P w K mg base CX0 k Z.f_behind Z.fd_behind [("dune" : Str), ("almanac" : Str)] (spA K 2 g_behind)) {g_almanac_of : FA} (O_almanac_of : FnOk P w K mg base CX0 k Z.f_almanac_of Z.fd_almanac_of [("cuts" : Str), ("fills" : Str), ("order" : Str)] (spA K 3 g_almanac_of)) {g_least_order : FA} (O_least_order : FnOk P w K mg base CX0 k Z.f_least_order Z.fd_least_order [("cuts" : Str), ("fills" : Str), ("words" : Str)] (spA K 3 g_least_order)) {g_greatest_order : FA} (O_greatest_order : FnOk P w K mg base CX0 k Z.f_greatest_order Z.fd_greatest_order [("cuts" : Str), ("fills" : Str), ("words" : Str)] (spA K 3 g_greatest_order)) {gx_least_order : FX} (OX_least_order : FnOk P w K mg base (L2.CX P w) k Z.f_least_order Z.fd_least_order [("cuts" : Str), ("fills" : Str), ("words" : Str)] (spX K 3 gx_least_order)) {gx_greatest_order : FX} (OX_greatest_order : FnOk P w K mg base (L2.CX P w) k Z.f_greatest_order Z.fd_greatest_order [("cuts" : Str), ("fills" : Str), ("words" : Str)] (spX K 3 gx_greatest_order)) : ∀ (cdv : Value) (A : Around) (outer : List Env) (s : Shared) (H : Hp) (E : XK), Room (k + 1) (A.deeper (envOfC "may_stand" (defScope s_may_stand) s.heap.objs.size Z.f_may_stand cdv)) → ∃ t, PXSs (cxOf (L2.CX P w) P w K mg base NN_may_stand "may_stand" (defScope s_may_stand) Z.f_may_stand cdv A outer s H E) (fun cls d _ H => E cls d H) (defBody s_may_stand) t (TX_may_stand g_behind g_almanac_of g_least_order g_greatest_order gx_least_order gx_greatest_order) :=
  fun cdv A outer s H E hr => ⟨_, (pxss_cons (pxs_or (pps_set (i := 4) sc_may_stand.nd (ppc_callA O_almanac_of (hr.mono (Nat.le_succ _)) (by rfl) Z.m_almanac_of Z.F_almanac_of.kp Z.b_almanac_of (ppa_cons (ppe_var 1) (ppa_cons (ppe_var 2) (ppa_cons (ppe_frz (ppc_callA O_least_order (hr.mono (Nat.le_succ _)) (by rfl) Z.m_least_order Z.F_least_order.kp Z.b_least_order (ppa_cons (ppe_var 1) (ppa_cons (ppe_var 2) (ppa_cons (ppe_var 3) ppa_nil))))) ppa_nil)))))
    (pxs_set (i := 4) sc_may_stand.nd (pxe_arg O_almanac_of (hr.mono (Nat.le_succ _)) (by rfl) Z.m_almanac_of Z.F_almanac_of.kp Z.b_almanac_of (pxa_there (ppe_var 1) (pxa_there (ppe_var 2) (pxa_here (pxe_call OX_least_order (takes_of rfl rfl rfl rfl) (hr.mono (Nat.le_succ _)) (by rfl) Z.m_least_order Z.F_least_order.kp Z.b_least_order (ppa_cons (ppe_var 1) (ppa_cons (ppe_var 2) (ppa_cons (ppe_var 3) ppa_nil)))) ppa_nil))))))
    (pxss_cons (pxs_or (pps_set (i := 5) sc_may_stand.nd (ppc_callA O_almanac_of (hr.mono (Nat.le_succ _)) (by rfl) Z.m_almanac_of Z.F_almanac_of.kp Z.b_almanac_of (ppa_cons (ppe_var 1) (ppa_cons (ppe_var 2) (ppa_cons (ppe_frz (ppc_callA O_greatest_order (hr.mono (Nat.le_succ _)) (by rfl) Z.m_greatest_order Z.F_greatest_order.kp Z.b_greatest_order (ppa_cons (ppe_var 1) (ppa_cons (ppe_var 2) (ppa_cons (ppe_var 3) ppa_nil))))) ppa_nil)))))
    (pxs_set (i := 5) sc_may_stand.nd (pxe_arg O_almanac_of (hr.mono (Nat.le_succ _)) (by rfl) Z.m_almanac_of Z.F_almanac_of.kp Z.b_almanac_of (pxa_there (ppe_var 1) (pxa_there (ppe_var 2) (pxa_here (pxe_call OX_greatest_order (takes_of rfl rfl rfl rfl) (hr.mono (Nat.le_succ _)) (by rfl) Z.m_greatest_order Z.F_greatest_order.kp Z.b_greatest_order (ppa_cons (ppe_var 1) (ppa_cons (ppe_var 2) (ppa_cons (ppe_var 3) ppa_nil)))) ppa_nil))))))
    (pxss_one (pxs_ok (pps_ret (ppc_val (ppe_tup (ppa_cons (ppe_frz (ppc_callA O_behind (hr.mono (Nat.le_succ _)) (by rfl) Z.m_behind Z.F_behind.kp Z.b_behind (ppa_cons (ppe_var 0) (ppa_cons (ppe_var 4) ppa_nil)))) (ppa_cons (ppe_frz (ppc_callA O_behind (hr.mono (Nat.le_succ _)) (by rfl) Z.m_behind Z.F_behind.kp Z.b_behind (ppa_cons (ppe_var 0) (ppa_cons (ppe_var 5) ppa_nil)))) ppa_nil)))))))))⟩
set_option maxHeartbeats 4000000 in
theorem bdx_least_order {k : Nat} {g_bounds : FA} (O_bounds : FnOk P w K mg base CX0 k Z.f_bounds Z.fd_bounds [("cuts" : Str), ("fills" : Str), ("words" : Str)] (spA K 3 g_bounds)) {g_order_with : FA} (O_order_with : FnOk P w K mg base CX0 k Z.f_order_with Z.fd_order_with [("ahead" : Str), ("many" : Str)] (spA K 2 g_order_with)) {gx_bounds : FX} (OX_bounds : FnOk P w K mg base (L2.CX P w) k Z.f_bounds Z.fd_bounds [("cuts" : Str), ("fills" : Str), ("words" : Str)] (spX K 3 gx_bounds)) : ∀ (cdv : Value) (A : Around) (outer : List Env) (s : Shared) (H : Hp) (E : XK), Room (k + 1) (A.deeper (envOfC "least_order" (defScope s_least_order) s.heap.objs.size Z.f_least_order cdv)) → ∃ t, PXSs (cxOf (L2.CX P w) P w K mg base NN_least_order "least_order" (defScope s_least_order) Z.f_least_order cdv A outer s H E) (fun cls d _ H => E cls d H) (defBody s_least_order) t (TX_least_order g_bounds g_order_with gx_bounds) :=
  fun cdv A outer s H E hr => ⟨_, (pxss_one (pxs_or (pps_ret (ppc_callA O_order_with (hr.mono (Nat.le_succ _)) (by rfl) Z.m_order_with Z.F_order_with.kp Z.b_order_with (ppa_cons (ppe_lcL (own := [("least", 3), ("most", 4)]) rfl sc_least_order.nd (ppi_seq (ppe_frz (ppc_callA O_bounds (hr.mono (Nat.le_succ _)) (by rfl) Z.m_bounds Z.F_bounds.kp Z.b_bounds (ppa_cons (ppe_var 0) (ppa_cons (ppe_var 1) (ppa_cons (ppe_var 2) ppa_nil)))))) (blkOk_by (N := NN_least_order) (sc := defScope s_least_order) (by decide +kernel)) (fun _ _ _ _ _ => ((ptg_tup (n := 2) rfl (ptgs_cons (ptg_name (i := 3) sc_least_order.nd) (ptgs_cons (ptg_name (i := 4) sc_least_order.nd) ptgs_nil)))).lift) (fun _ _ _ _ _ => (ppts_nil).lift) (fun _ _ _ _ _ => ((ppe_var 4)).lift)) (ppa_cons (ppe_lenO 0 (by rfl) Z.z_len) ppa_nil))))
    (pxs_ret (pxe_arg O_order_with (hr.mono (Nat.le_succ _)) (by rfl) Z.m_order_with Z.F_order_with.kp Z.b_order_with (pxa_here (pxe_lc (own := [("least", 3), ("most", 4)]) rfl sc_least_order.nd (pxi_seq (pxe_call OX_bounds (takes_of rfl rfl rfl rfl) (hr.mono (Nat.le_succ _)) (by rfl) Z.m_bounds Z.F_bounds.kp Z.b_bounds (ppa_cons (ppe_var 0) (ppa_cons (ppe_var 1) (ppa_cons (ppe_var 2) ppa_nil))))) (blkOk_by (N := NN_least_order) (sc := defScope s_least_order) (by decide +kernel)) (fun _ _ _ _ _ => ((ptg_tup (n := 2) rfl (ptgs_cons (ptg_name (i := 3) sc_least_order.nd) (ptgs_cons (ptg_name (i := 4) sc_least_order.nd) ptgs_nil)))).lift) (fun _ _ _ _ _ => (ppts_nil).lift) (fun _ _ _ _ _ => ((ppe_var 4)).lift)) (ppa_cons (ppe_lenO 0 (by rfl) Z.z_len) ppa_nil))))))⟩
set_option maxHeartbeats 4000000 in
theorem bdx_greatest_order {k : Nat} {g_bounds : FA} (O_bounds : FnOk P w K mg base CX0 k Z.f_bounds Z.fd_bounds [("cuts" : Str), ("fills" : Str), ("words" : Str)] (spA K 3 g_bounds)) {g_order_with : FA} (O_order_with : FnOk P w K mg base CX0 k Z.f_order_with Z.fd_order_with [("ahead" : Str), ("many" : Str)] (spA K 2 g_order_with)) {gx_bounds : FX} (OX_bounds : FnOk P w K mg base (L2.CX P w) k Z.f_bounds Z.fd_bounds [("cuts" : Str), ("fills" : Str), ("words" : Str)] (spX K 3 gx_bounds)) : ∀ (cdv : Value) (A : Around) (outer : List Env) (s : Shared) (H : Hp) (E : XK), Room (k + 1) (A.deeper (envOfC "greatest_order" (defScope s_greatest_order) s.heap.objs.size Z.f_greatest_order cdv)) → ∃ t, PXSs (cxOf (L2.CX P w) P w K mg base NN_greatest_order "greatest_order" (defScope s_greatest_order) Z.f_greatest_order cdv A outer s H E) (fun cls d _ H => E cls d H) (defBody s_greatest_order) t (TX_greatest_order g_bounds g_order_with gx_bounds) :=
  fun cdv A outer s H E hr => ⟨_, (pxss_one (pxs_or (pps_ret (ppc_callA O_order_with (hr.mono (Nat.le_succ _)) (by rfl) Z.m_order_with Z.F_order_with.kp Z.b_order_with (ppa_cons (ppe_lcL (own := [("least", 3), ("most", 4)]) rfl sc_greatest_order.nd (ppi_seq (ppe_frz (ppc_callA O_bounds (hr.mono (Nat.le_succ _)) (by rfl) Z.m_bounds Z.F_bounds.kp Z.b_bounds (ppa_cons (ppe_var 0) (ppa_cons (ppe_var 1) (ppa_cons (ppe_var 2) ppa_nil)))))) (blkOk_by (N := NN_greatest_order) (sc := defScope s_greatest_order) (by decide +kernel)) (fun _ _ _ _ _ => ((ptg_tup (n := 2) rfl (ptgs_cons (ptg_name (i := 3) sc_greatest_order.nd) (ptgs_cons (ptg_name (i := 4) sc_greatest_order.nd) ptgs_nil)))).lift) (fun _ _ _ _ _ => (ppts_nil).lift) (fun _ _ _ _ _ => ((ppe_var 3)).lift)) (ppa_cons (ppe_lenO 0 (by rfl) Z.z_len) ppa_nil))))
    (pxs_ret (pxe_arg O_order_with (hr.mono (Nat.le_succ _)) (by rfl) Z.m_order_with Z.F_order_with.kp Z.b_order_with (pxa_here (pxe_lc (own := [("least", 3), ("most", 4)]) rfl sc_greatest_order.nd (pxi_seq (pxe_call OX_bounds (takes_of rfl rfl rfl rfl) (hr.mono (Nat.le_succ _)) (by rfl) Z.m_bounds Z.F_bounds.kp Z.b_bounds (ppa_cons (ppe_var 0) (ppa_cons (ppe_var 1) (ppa_cons (ppe_var 2) ppa_nil))))) (blkOk_by (N := NN_greatest_order) (sc := defScope s_greatest_order) (by decide +kernel)) (fun _ _ _ _ _ => ((ptg_tup (n := 2) rfl (ptgs_cons (ptg_name (i := 3) sc_greatest_order.nd) (ptgs_cons (ptg_name (i := 4) sc_greatest_order.nd) ptgs_nil)))).lift) (fun _ _ _ _ _ => (ppts_nil).lift) (fun _ _ _ _ _ => ((ppe_var 3)).lift)) (ppa_cons (ppe_lenO 0 (by rfl) Z.z_len) ppa_nil))))))⟩
set_option maxHeartbeats 4000000 in
theorem bdx_bounds {k : Nat} {g_refuse_clash : FA} (O_refuse_clash : FnOk P w K mg base CX0 k Z.f_refuse_clash Z.fd_refuse_clash [("words" : Str)] (spA K 1 g_refuse_clash)) {g_least_ahead : FA} (O_least_ahead : FnOk P w K mg base CX0 k Z.f_least_ahead Z.fd_least_ahead [("words" : Str), ("fill" : Str)] (spA K 2 g_least_ahead)) {g_most_ahead : FA} (O_most_ahead : FnOk P w K mg base CX0 k Z.f_most_ahead Z.fd_most_ahead [("cuts" : Str), ("words" : Str), ("fill" : Str)] (spA K 3 g_most_ahead)) {gx_refuse_clash : FX} (OX_refuse_clash : FnOk P w K mg base (L2.CX P w) k Z.f_refuse_clash Z.fd_refuse_clash [("words" : Str)] (spX K 1 gx_refuse_clash)) : ∀ (cdv : Value) (A : Around) (outer : List Env) (s : Shared) (H : Hp) (E : XK), Room (k + 1) (A.deeper (envOfC "bounds" (defScope s_bounds) s.heap.objs.size Z.f_bounds cdv)) → ∃ t, PXSs (cxOf (L2.CX P w) P w K mg base NN_bounds "bounds" (defScope s_bounds) Z.f_bounds cdv A outer s H E) (fun cls d _ H => E cls d H) (defBody s_bounds) t (TX_bounds g_refuse_clash g_least_ahead g_most_ahead gx_refuse_clash) :=
  fun cdv A outer s H E hr => ⟨_, (pxss_cons (pxs_or (pps_expr (ppe_frz (ppc_callA O_refuse_clash (hr.mono (Nat.le_succ _)) (by rfl) Z.m_refuse_clash Z.F_refuse_clash.kp Z.b_refuse_clash (ppa_cons (ppe_var 2) ppa_nil))))
    (pxs_expr (pxe_call OX_refuse_clash (takes_of rfl rfl rfl rfl) (hr.mono (Nat.le_succ _)) (by rfl) Z.m_refuse_clash Z.F_refuse_clash.kp Z.b_refuse_clash (ppa_cons (ppe_var 2) ppa_nil))))
    (pxss_one (pxs_ok (pps_ret (ppc_lcL (own := [("fill", 3)]) rfl sc_bounds.nd (ppi_range1 (by rfl) Z.z_range (ppa_cons (ppe_lenO 1 (by rfl) Z.z_len) ppa_nil)) (blkOk_by (N := NN_bounds) (sc := defScope s_bounds) (by decide +kernel)) (fun _ _ _ _ _ => ((ptg_name (i := 3) sc_bounds.nd)).lift) (fun _ _ _ _ _ => (ppts_nil).lift) (fun _ _ _ _ _ => ((ppe_tup (ppa_cons (ppe_frz (ppc_callA O_least_ahead (hr.mono (Nat.le_succ _)) (by rfl) Z.m_least_ahead Z.F_least_ahead.kp Z.b_least_ahead (ppa_cons (ppe_var 2) (ppa_cons (ppe_var 3) ppa_nil)))) (ppa_cons (ppe_frz (ppc_callA O_most_ahead (hr.mono (Nat.le_succ _)) (by rfl) Z.m_most_ahead Z.F_most_ahead.kp Z.b_most_ahead (ppa_cons (ppe_var 0) (ppa_cons (ppe_var 2) (ppa_cons (ppe_var 3) ppa_nil))))) ppa_nil)))).lift))))))⟩
set_option maxHeartbeats 4000000 in
theorem bdx_refuse_clash {k : Nat} {g_first_clash : FA} (O_first_clash : FnOk P w K mg base CX0 k Z.f_first_clash Z.fd_first_clash [("words" : Str)] (spA K 1 g_first_clash)) {ok_Clash : D → Prop} (OI_Clash : FnOk P w K mg base CX0 k Z.fI_Clash Z.fdI_Clash ["self", "places"] (spI K "Clash" Z.C_Clash ok_Clash)) : ∀ (cdv : Value) (A : Around) (outer : List Env) (s : Shared) (H : Hp) (E : XK), Room (k + 1) (A.deeper (envOfC "refuse_clash" (defScope s_refuse_clash) s.heap.objs.size Z.f_refuse_clash cdv)) → ∃ t, PXSs (cxOf (L2.CX P w) P w K mg base NN_refuse_clash "refuse_clash" (defScope s_refuse_clash) Z.f_refuse_clash cdv A outer s H E) (fun cls d _ H => E cls d H) (defBody s_refuse_clash) t (TX_refuse_clash g_first_clash ok_Clash) :=
  fun cdv A outer s H E hr => ⟨_, (pxss_cons (pxs_ok (pps_set (i := 1) sc_refuse_clash.nd (ppc_callA O_first_clash (hr.mono (Nat.le_succ _)) (by rfl) Z.m_first_clash Z.F_first_clash.kp Z.b_first_clash (ppa_cons (ppe_var 0) ppa_nil))))
    (pxss_one (pxs_if (ppt_cmp cm_notN (ppe_var 1) ppe_non (nomark _))
    (pxss_one (pxs_raise rfl (takes_of rfl rfl rfl rfl) (XB.over (xb "Clash")) Z.x_Clash.own Z.x_Clash.ns Z.iC_Clash Z.tI_Clash OI_Clash hr Z.bI_Clash (by rfl) Z.x_Clash.gm (ppa_cons (ppe_var 1) ppa_nil)))
    pxss_nil)))⟩
theorem bdI_Clash {k : Nat} {ok : D → Prop} {g_own_copy : FA} (O_own_copy : FnOk P w K mg base CX0 k Z.f_own_copy Z.fd_own_copy [("thing" : Str)] (spA K 1 g_own_copy)) (hg : ∀ d, ok d → ∀ P : Cell → Prop, (∀ c, c.froz = d → P c) → g_own_copy [d] P) : FnOk P w K mg base CX0 (k + 1) Z.fI_Clash Z.fdI_Clash ["self", "places"] (spI K "Clash" Z.C_Clash ok) :=
  ok_init (m := "no order has both of these words") Z.FI_Clash ⟨rfl, rfl, rfl, by decide +kernel, rfl, by decide +kernel, by decide +kernel⟩ Z.x_Clash fun cdv A outer s H E hr => ⟨_, (rdi_call hg), pss_cons (ps_expr (pe_oyinit (B := (xb "Clash").nm) (XB.over (xb "Clash")) (by rfl) Z.z_ValueError Z.vI_Clash (pa_cons (pe_var (i := 0) rfl (.inl rfl) (by decide) (by decide)) (pa_cons pe_str pa_nil)))) (pss_one (ps_oyst (XB.over (xb "Clash")) (pe_var (i := 0) rfl (.inl rfl) (by decide) (by decide)) (pe_call O_own_copy hr (by rfl) Z.m_own_copy Z.F_own_copy.kp Z.b_own_copy .nil pass0 (pa_cons (pe_var (i := 1) rfl (.inl rfl) (by decide) (by decide)) pa_nil) (by decide) (by rfl) (by rfl))))⟩
end
section
variable {P : Program} {w : World} {K : PySem.W.Frag} {mg : Str → Option Value} {base : Heap} (Z : Tx K mg)
include Z
theorem ok_mirrored : FnOk P w K mg base CX0 1 Z.f_mirrored Z.fd_mirrored ["dune"] (spA K 1 g_mirrored) := okA Z.F_mirrored sc_mirrored (bd_mirrored Z (k := 0) ) rd_mirrored
theorem ok_upside : FnOk P w K mg base CX0 1 Z.f_upside Z.fd_upside ["dune"] (spA K 1 g_upside) := okA Z.F_upside sc_upside (bd_upside Z (k := 0) ) rd_upside
theorem ok_cut_onward : FnOk P w K mg base CX0 1 Z.f_cut_onward Z.fd_cut_onward ["dune", "slope"] (spA K 2 g_cut_onward) := okA Z.F_cut_onward sc_cut_onward (bd_cut_onward Z (k := 0) ) rd_cut_onward
theorem ok_cut_to : FnOk P w K mg base CX0 2 Z.f_cut_to Z.fd_cut_to ["dune", "slope"] (spA K 2 g_cut_to) := okA Z.F_cut_to sc_cut_to (bd_cut_to Z (k := 1) ((ok_mirrored Z).mono (by decide)) ((ok_cut_onward Z).mono (by decide))) rd_cut_to
theorem ok_blown : FnOk P w K mg base CX0 3 Z.f_blown Z.fd_blown ["dune", "wind"] (spA K 2 g_blown) := okA Z.F_blown sc_blown (bd_blown Z (k := 2) ((ok_upside Z).mono (by decide)) ((ok_cut_to Z).mono (by decide))) rd_blown
theorem ok_days : FnOk P w K mg base CX0 4 Z.f_days Z.fd_days ["dune", "almanac"] (spA K 2 g_days) := okA Z.F_days sc_days (bd_days Z (k := 3) ((ok_blown Z).mono (by decide))) rd_days
theorem ok_behind : FnOk P w K mg base CX0 5 Z.f_behind Z.fd_behind ["dune", "almanac"] (spA K 2 g_behind) := okA Z.F_behind sc_behind (bd_behind Z (k := 4) ((ok_days Z).mono (by decide))) rd_behind
theorem ok_almanac_of : FnOk P w K mg base CX0 1 Z.f_almanac_of Z.fd_almanac_of ["cuts", "fills", "order"] (spA K 3 g_almanac_of) := okA Z.F_almanac_of sc_almanac_of (bd_almanac_of Z (k := 0) ) rd_almanac_of
theorem ok_are_contrary : FnOk P w K mg base CX0 1 Z.f_are_contrary Z.fd_are_contrary ["one", "other"] (spA K 2 g_are_contraryA) := okA Z.F_are_contrary sc_are_contrary (bd_are_contrary Z (k := 0) ) rd_are_contraryA
theorem ok_first_clash : FnOk P w K mg base CX0 2 Z.f_first_clash Z.fd_first_clash ["words"] (spA K 1 g_first_clashG) := okA Z.F_first_clash sc_first_clash (bd_first_clash Z (k := 1) ((ok_are_contrary Z).mono (by decide))) rd_first_clashG
theorem ok_refuse_clash : FnOk P w K mg base CX0 3 Z.f_refuse_clash Z.fd_refuse_clash ["words"] (spA K 1 g_refuse_clashG) := okA Z.F_refuse_clash sc_refuse_clash (bd_refuse_clash Z (k := 2) ((ok_first_clash Z).mono (by decide))) rd_refuse_clashG
theorem ok_least_ahead : FnOk P w K mg base CX0 1 Z.f_least_ahead Z.fd_least_ahead ["words", "fill"] (spA K 2 g_least_aheadA) := okA Z.F_least_ahead sc_least_ahead (bd_least_ahead Z (k := 0) ) rd_least_aheadA
theorem ok_most_ahead : FnOk P w K mg base CX0 1 Z.f_most_ahead Z.fd_most_ahead ["cuts", "words", "fill"] (spA K 3 g_most_aheadA) := okA Z.F_most_ahead sc_most_ahead (bd_most_ahead Z (k := 0) ) rd_most_aheadA
theorem ok_bounds : FnOk P w K mg base CX0 4 Z.f_bounds Z.fd_bounds ["cuts", "fills", "words"] (spA K 3 g_boundsA) := okA Z.F_bounds sc_bounds (bd_bounds Z (k := 3) ((ok_refuse_clash Z).mono (by decide)) ((ok_least_ahead Z).mono (by decide)) ((ok_most_ahead Z).mono (by decide))) rd_boundsA
theorem ok_order_with : FnOk P w K mg base CX0 1 Z.f_order_with Z.fd_order_with ["ahead", "many"] (spA K 2 g_order_with) := okA Z.F_order_with sc_order_with (bd_order_with Z (k := 0) ) rd_order_with
theorem ok_least_order : FnOk P w K mg base CX0 5 Z.f_least_order Z.fd_least_order ["cuts", "fills", "words"] (spA K 3 g_least_orderA) := okA Z.F_least_order sc_least_order (bd_least_order Z (k := 4) ((ok_bounds Z).mono (by decide)) ((ok_order_with Z).mono (by decide))) rd_least_orderA
theorem ok_greatest_order : FnOk P w K mg base CX0 5 Z.f_greatest_order Z.fd_greatest_order ["cuts", "fills", "words"] (spA K 3 g_greatest_orderA) := okA Z.F_greatest_order sc_greatest_order (bd_greatest_order Z (k := 4) ((ok_bounds Z).mono (by decide)) ((ok_order_with Z).mono (by decide))) rd_greatest_orderA
theorem ok_may_stand : FnOk P w K mg base CX0 6 Z.f_may_stand Z.fd_may_stand ["dune", "cuts", "fills", "words"] (spA K 4 g_may_standA) := okA Z.F_may_stand sc_may_stand (bd_may_stand Z (k := 5) ((ok_behind Z).mono (by decide)) ((ok_almanac_of Z).mono (by decide)) ((ok_least_order Z).mono (by decide)) ((ok_greatest_order Z).mono (by decide))) rd_may_standA
theorem ok_sure_posts : FnOk P w K mg base CX0 7 Z.f_sure_posts Z.fd_sure_posts ["dune", "cuts", "fills", "words"] (spA K 4 g_sure_postsA) := okA Z.F_sure_posts sc_sure_posts (bd_sure_posts Z (k := 6) ((ok_may_stand Z).mono (by decide))) rd_sure_postsA
theorem ok_is_enough : FnOk P w K mg base CX0 8 Z.f_is_enough Z.fd_is_enough ["dune", "cuts", "fills", "words"] (spA K 4 g_is_enough) := okA Z.F_is_enough sc_is_enough (bd_is_enough Z (k := 7) ((ok_sure_posts Z).mono (by decide))) rd_is_enough
theorem ok__law_cell_at : FnOk P w K mg base CX0 1 Z.f__law_cell_at Z.fd__law_cell_at ["_law_script", "_law_k"] (spA K 2 g__law_cell_at) := okA Z.F__law_cell_at sc__law_cell_at (bd__law_cell_at Z (k := 0) ) rd__law_cell_at
theorem ok__law_box : FnOk P w K mg base CX0 2 Z.f__law_box Z.fd__law_box ["_law_script", "_law_k"] (spA K 2 g__law_box) := okA Z.F__law_box sc__law_box (bd__law_box Z (k := 1) ((ok__law_cell_at Z).mono (by decide))) rd__law_box
theorem ok__law_take_0 : FnOk P w K mg base CX0 1 Z.f__law_take Z.fd__law_take ["_law_box_here", "_law_size"] (spB K 2 g_take0) := okB Z.F__law_take sc__law_take (bd__law_take Z (k := 0) (fnNoneB Z.F__law_take)) rd_take0
theorem ok__law_take : FnOk P w K mg base CX0 2 Z.f__law_take Z.fd__law_take ["_law_box_here", "_law_size"] (spB K 2 (g_take 100000000000000)) := okB Z.F__law_take sc__law_take (bd__law_take Z (k := 1) ((ok__law_take_0 Z).mono (by decide))) rd_take
theorem ok__law_same_0 : FnOk P w K mg base CX0 1 Z.f__law_same Z.fd__law_same ["_law_told_here", "_law_due"] (spA K 2 (gS 1)) := okA Z.F__law_same sc__law_same (bd__law_same Z (k := 0) (fnNoneA Z.F__law_same)) (rd_same 0)
theorem ok__law_same_1 : FnOk P w K mg base CX0 2 Z.f__law_same Z.fd__law_same ["_law_told_here", "_law_due"] (spA K 2 (gS 2)) := okA Z.F__law_same sc__law_same (bd__law_same Z (k := 1) ((ok__law_same_0 Z).mono (by decide))) (rd_same 1)
theorem ok__law_same_2 : FnOk P w K mg base CX0 3 Z.f__law_same Z.fd__law_same ["_law_told_here", "_law_due"] (spA K 2 (gS 3)) := okA Z.F__law_same sc__law_same (bd__law_same Z (k := 2) ((ok__law_same_1 Z).mono (by decide))) (rd_same 2)
theorem ok__law_same : FnOk P w K mg base CX0 4 Z.f__law_same Z.fd__law_same ["_law_told_here", "_law_due"] (spA K 2 (gS 4)) := okA Z.F__law_same sc__law_same (bd__law_same Z (k := 3) ((ok__law_same_2 Z).mono (by decide))) (rd_same 3)
theorem ok__law_blown : FnOk P w K mg base CX0 1 Z.f__law_blown Z.fd__law_blown ["_law_dune_here", "_law_wind"] (spA K 2 g__law_blown) := okA Z.F__law_blown sc__law_blown (bd__law_blown Z (k := 0) ) rd__law_blown
theorem ok__law_behind : FnOk P w K mg base CX0 2 Z.f__law_behind Z.fd__law_behind ["_law_dune_here", "_law_winds"] (spA K 2 g__law_behind) := okA Z.F__law_behind sc__law_behind (bd__law_behind Z (k := 1) ((ok__law_blown Z).mono (by decide))) rd__law_behind
theorem ok__law_dune : FnOk P w K mg base CX0 3 Z.f__law_dune Z.fd__law_dune ["_law_box_here", "_law_size"] (spB K 2 g__law_dune) := okB Z.F__law_dune sc__law_dune (bd__law_dune Z (k := 2) ((ok__law_take Z).mono (by decide))) rd__law_dune
theorem ok__law_slope : FnOk P w K mg base CX0 3 Z.f__law_slope Z.fd__law_slope ["_law_box_here"] (spB K 1 g__law_slope) := okB Z.F__law_slope sc__law_slope (bd__law_slope Z (k := 2) ((ok__law_take Z).mono (by decide))) rd__law_slope
theorem ok__law_books : FnOk P w K mg base CX0 4 Z.f__law_books Z.fd__law_books ["_law_box_here", "_law_size"] (spB K 2 g__law_books) := okB Z.F__law_books sc__law_books (bd__law_books Z (k := 3) ((ok__law_take Z).mono (by decide)) ((ok__law_slope Z).mono (by decide))) rd__law_books
theorem ok__law_orders_0 : FnOk P w K mg base CX0 1 Z.f__law_orders Z.fd__law_orders ["_law_cuts", "_law_fills"] (spA K 2 (gOr 1)) := okA Z.F__law_orders sc__law_orders (bd__law_orders Z (k := 0) (fnNoneA Z.F__law_orders)) (rd_or 0)
theorem ok__law_orders_1 : FnOk P w K mg base CX0 2 Z.f__law_orders Z.fd__law_orders ["_law_cuts", "_law_fills"] (spA K 2 (gOr 2)) := okA Z.F__law_orders sc__law_orders (bd__law_orders Z (k := 1) ((ok__law_orders_0 Z).mono (by decide))) (rd_or 1)
theorem ok__law_orders_2 : FnOk P w K mg base CX0 3 Z.f__law_orders Z.fd__law_orders ["_law_cuts", "_law_fills"] (spA K 2 (gOr 3)) := okA Z.F__law_orders sc__law_orders (bd__law_orders Z (k := 2) ((ok__law_orders_1 Z).mono (by decide))) (rd_or 2)
theorem ok__law_orders_3 : FnOk P w K mg base CX0 4 Z.f__law_orders Z.fd__law_orders ["_law_cuts", "_law_fills"] (spA K 2 (gOr 4)) := okA Z.F__law_orders sc__law_orders (bd__law_orders Z (k := 3) ((ok__law_orders_2 Z).mono (by decide))) (rd_or 3)
theorem ok__law_orders_4 : FnOk P w K mg base CX0 5 Z.f__law_orders Z.fd__law_orders ["_law_cuts", "_law_fills"] (spA K 2 (gOr 5)) := okA Z.F__law_orders sc__law_orders (bd__law_orders Z (k := 4) ((ok__law_orders_3 Z).mono (by decide))) (rd_or 4)
theorem ok__law_orders_5 : FnOk P w K mg base CX0 6 Z.f__law_orders Z.fd__law_orders ["_law_cuts", "_law_fills"] (spA K 2 (gOr 6)) := okA Z.F__law_orders sc__law_orders (bd__law_orders Z (k := 5) ((ok__law_orders_4 Z).mono (by decide))) (rd_or 5)
theorem ok__law_orders_6 : FnOk P w K mg base CX0 7 Z.f__law_orders Z.fd__law_orders ["_law_cuts", "_law_fills"] (spA K 2 (gOr 7)) := okA Z.F__law_orders sc__law_orders (bd__law_orders Z (k := 6) ((ok__law_orders_5 Z).mono (by decide))) (rd_or 6)
theorem ok__law_orders : FnOk P w K mg base CX0 8 Z.f__law_orders Z.fd__law_orders ["_law_cuts", "_law_fills"] (spA K 2 (gOr 8)) := okA Z.F__law_orders sc__law_orders (bd__law_orders Z (k := 7) ((ok__law_orders_6 Z).mono (by decide))) (rd_or 7)
theorem ok__law_almanac : FnOk P w K mg base CX0 1 Z.f__law_almanac Z.fd__law_almanac ["_law_cuts", "_law_fills", "_law_order_here"] (spA K 3 g__law_almanac) := okA Z.F__law_almanac sc__law_almanac (bd__law_almanac Z (k := 0) ) rd__law_almanac
theorem ok__law_order : FnOk P w K mg base CX0 3 Z.f__law_order Z.fd__law_order ["_law_box_here", "_law_cuts", "_law_fills"] (spB K 3 g__law_order) := okB Z.F__law_order sc__law_order (bd__law_order Z (k := 2) ((ok__law_take Z).mono (by decide))) rd__law_order
theorem ok__law_has : FnOk P w K mg base CX0 1 Z.f__law_has Z.fd__law_has ["_law_order_here", "_law_word"] (spA K 2 g__law_has) := okA Z.F__law_has sc__law_has (bd__law_has Z (k := 0) ) rd__law_has
theorem ok__law_words : FnOk P w K mg base CX0 3 Z.f__law_words Z.fd__law_words ["_law_box_here", "_law_order_here", "_law_size"] (spB K 3 g__law_words) := okB Z.F__law_words sc__law_words (bd__law_words Z (k := 2) ((ok__law_take Z).mono (by decide)) ((ok__law_has Z).mono (by decide))) rd__law_words
theorem ok_own_copy_0 : FnOk P w K mg base CX0 1 Z.f_own_copy Z.fd_own_copy ["thing"] (spA K 1 (gCp 1)) := okA Z.F_own_copy sc_own_copy (bd_own_copy Z (k := 0) (fnNoneA Z.F_own_copy)) (rd_own_copy 0)
theorem ok_own_copy_1 : FnOk P w K mg base CX0 2 Z.f_own_copy Z.fd_own_copy ["thing"] (spA K 1 (gCp 2)) := okA Z.F_own_copy sc_own_copy (bd_own_copy Z (k := 1) ((ok_own_copy_0 Z).mono (by decide))) (rd_own_copy 1)
theorem ok_own_copy_2 : FnOk P w K mg base CX0 3 Z.f_own_copy Z.fd_own_copy ["thing"] (spA K 1 (gCp 3)) := okA Z.F_own_copy sc_own_copy (bd_own_copy Z (k := 2) ((ok_own_copy_1 Z).mono (by decide))) (rd_own_copy 2)
theorem ok_own_copy : FnOk P w K mg base CX0 4 Z.f_own_copy Z.fd_own_copy ["thing"] (spA K 1 (gCp 4)) := okA Z.F_own_copy sc_own_copy (bd_own_copy Z (k := 3) ((ok_own_copy_2 Z).mono (by decide))) (rd_own_copy 3)
theorem okI_Clash : FnOk P w K mg base CX0 5 Z.fI_Clash Z.fdI_Clash ["self", "places"] (spI K "Clash" Z.C_Clash (okN 3)) := bdI_Clash Z (k := 4) (ok_own_copy Z) (fun d h P hP => ⟨d, rfl, h, hP⟩)
theorem okx_refuse_clash : FnOk P w K mg base (L2.CX P w) 7 Z.f_refuse_clash Z.fd_refuse_clash ["words"] (spX K 1 gx_refuse_clash) := okX Z.F_refuse_clash sc_refuse_clash (bdx_refuse_clash Z (k := 5) ((ok_first_clash Z).mono (by decide)) ((okI_Clash Z).mono (by decide))) rdx_refuse_clash
theorem okx_bounds : FnOk P w K mg base (L2.CX P w) 9 Z.f_bounds Z.fd_bounds ["cuts", "fills", "words"] (spX K 3 gx_bounds) := okX Z.F_bounds sc_bounds (bdx_bounds Z (k := 7) ((ok_refuse_clash Z).mono (by decide)) ((ok_least_ahead Z).mono (by decide)) ((ok_most_ahead Z).mono (by decide)) ((okx_refuse_clash Z).mono (by decide))) rdx_bounds
theorem okx_least_order : FnOk P w K mg base (L2.CX P w) 11 Z.f_least_order Z.fd_least_order ["cuts", "fills", "words"] (spX K 3 gx_least_order) := okX Z.F_least_order sc_least_order (bdx_least_order Z (k := 9) ((ok_bounds Z).mono (by decide)) ((ok_order_with Z).mono (by decide)) ((okx_bounds Z).mono (by decide))) rdx_least_order
theorem okx_greatest_order : FnOk P w K mg base (L2.CX P w) 11 Z.f_greatest_order Z.fd_greatest_order ["cuts", "fills", "words"] (spX K 3 gx_greatest_order) := okX Z.F_greatest_order sc_greatest_order (bdx_greatest_order Z (k := 9) ((ok_bounds Z).mono (by decide)) ((ok_order_with Z).mono (by decide)) ((okx_bounds Z).mono (by decide))) rdx_greatest_order
theorem okx_may_stand : FnOk P w K mg base (L2.CX P w) 13 Z.f_may_stand Z.fd_may_stand ["dune", "cuts", "fills", "words"] (spX K 4 gx_may_stand) := okX Z.F_may_stand sc_may_stand (bdx_may_stand Z (k := 11) ((ok_behind Z).mono (by decide)) ((ok_almanac_of Z).mono (by decide)) ((ok_least_order Z).mono (by decide)) ((ok_greatest_order Z).mono (by decide)) ((okx_least_order Z).mono (by decide)) ((okx_greatest_order Z).mono (by decide))) rdx_may_stand
theorem okx_sure_posts : FnOk P w K mg base (L2.CX P w) 15 Z.f_sure_posts Z.fd_sure_posts ["dune", "cuts", "fills", "words"] (spX K 4 gx_sure_posts) := okX Z.F_sure_posts sc_sure_posts (bdx_sure_posts Z (k := 13) ((ok_may_stand Z).mono (by decide)) ((okx_may_stand Z).mono (by decide))) rdx_sure_posts
theorem okx_is_enough : FnOk P w K mg base (L2.CX P w) 17 Z.f_is_enough Z.fd_is_enough ["dune", "cuts", "fills", "words"] (spX K 4 gx_is_enough) := okX Z.F_is_enough sc_is_enough (bdx_is_enough Z (k := 15) ((ok_sure_posts Z).mono (by decide)) ((okx_sure_posts Z).mono (by decide))) rdx_is_enough
theorem ok__law_told : FnOk P w K mg base CX0 18 Z.f__law_told Z.fd__law_told ["_law_dune_here", "_law_cuts", "_law_fills", "_law_words_here"] (spA K 4 g__law_told) := okA Z.F__law_told sc__law_told (bd__law_told Z (k := 17) ((ok_is_enough Z).mono (by decide)) ((okx_is_enough Z).mono (by decide))) rd__law_told
theorem ok__law_clash : FnOk P w K mg base CX0 2 Z.f__law_clash Z.fd__law_clash ["_law_orders_here", "_law_words_here"] (spA K 2 g__law_clash) := okA Z.F__law_clash sc__law_clash (bd__law_clash Z (k := 1) ((ok__law_has Z).mono (by decide))) rd__law_clash
theorem ok__law_right : FnOk P w K mg base CX0 19 Z.f__law_right Z.fd__law_right ["_law_box_here"] (spB K 1 g__law_right) := okB Z.F__law_right sc__law_right (bd__law_right Z (k := 18) ((ok__law_same Z).mono (by decide)) ((ok__law_behind Z).mono (by decide)) ((ok__law_dune Z).mono (by decide)) ((ok__law_books Z).mono (by decide)) ((ok__law_orders Z).mono (by decide)) ((ok__law_almanac Z).mono (by decide)) ((ok__law_order Z).mono (by decide)) ((ok__law_has Z).mono (by decide)) ((ok__law_words Z).mono (by decide)) ((ok__law_told Z).mono (by decide)) ((ok__law_clash Z).mono (by decide))) rd__law_right
theorem ok_law : FnOk P w K mg base CX0 20 Z.f_law Z.fd_law ["_law_script"] (spA K 1 g_law) := okA Z.F_law sc_law (bd_law Z (k := 19) ((ok__law_box Z).mono (by decide)) ((ok__law_right Z).mono (by decide))) rd_law
end
set_option maxHeartbeats 4000000 in
theorem all_mk {l : PySem.W.OpenLaw} {w : World} {K : PySem.W.Frag} {h : Heap} {mg : Str → Option Value} {fa : Addr} (X : K.In h) (G : h.Ns mainGlobals mg) (hfa : mg "law" = some (.ref fa)) {f0 : Addr} {od0 an0 : Option Addr} {sl0 : Array (Option Value)} {oc0 kV0 dc0 pm0 cd0 ct0 : Value} {f1 : Addr} {od1 an1 : Option Addr} {sl1 : Array (Option Value)} {oc1 kV1 dc1 pm1 cd1 ct1 : Value} {f2 : Addr} {od2 an2 : Option Addr} {sl2 : Array (Option Value)} {oc2 kV2 dc2 pm2 cd2 ct2 : Value} {f3 : Addr} {od3 an3 : Option Addr} {sl3 : Array (Option Value)} {oc3 kV3 dc3 pm3 cd3 ct3 : Value} {f4 : Addr} {od4 an4 : Option Addr} {sl4 : Array (Option Value)} {oc4 kV4 dc4 pm4 cd4 ct4 : Value} {f5 : Addr} {od5 an5 : Option Addr} {sl5 : Array (Option Value)} {oc5 kV5 dc5 pm5 cd5 ct5 : Value} {f6 : Addr} {od6 an6 : Option Addr} {sl6 : Array (Option Value)} {oc6 kV6 dc6 pm6 cd6 ct6 : Value} {f7 : Addr} {od7 an7 : Option Addr} {sl7 : Array (Option Value)} {oc7 kV7 dc7 pm7 cd7 ct7 : Value} {f8 : Addr} {od8 an8 : Option Addr} {sl8 : Array (Option Value)} {oc8 kV8 dc8 pm8 cd8 ct8 : Value} {f9 : Addr} {od9 an9 : Option Addr} {sl9 : Array (Option Value)} {oc9 kV9 dc9 pm9 cd9 ct9 : Value} {f10 : Addr} {od10 an10 : Option Addr} {sl10 : Array (Option Value)} {oc10 kV10 dc10 pm10 cd10 ct10 : Value} {f11 : Addr} {od11 an11 : Option Addr} {sl11 : Array (Option Value)} {oc11 kV11 dc11 pm11 cd11 ct11 : Value} {f12 : Addr} {od12 an12 : Option Addr} {sl12 : Array (Option Value)} {oc12 kV12 dc12 pm12 cd12 ct12 : Value} {f13 : Addr} {od13 an13 : Option Addr} {sl13 : Array (Option Value)} {oc13 kV13 dc13 pm13 cd13 ct13 : Value} {f14 : Addr} {od14 an14 : Option Addr} {sl14 : Array (Option Value)} {oc14 kV14 dc14 pm14 cd14 ct14 : Value} {f15 : Addr} {od15 an15 : Option Addr} {sl15 : Array (Option Value)} {oc15 kV15 dc15 pm15 cd15 ct15 : Value} {f16 : Addr} {od16 an16 : Option Addr} {sl16 : Array (Option Value)} {oc16 kV16 dc16 pm16 cd16 ct16 : Value} {f17 : Addr} {od17 an17 : Option Addr} {sl17 : Array (Option Value)} {oc17 kV17 dc17 pm17 cd17 ct17 : Value} {f18 : Addr} {od18 an18 : Option Addr} {sl18 : Array (Option Value)} {oc18 kV18 dc18 pm18 cd18 ct18 : Value} {f19 : Addr} {od19 an19 : Option Addr} {sl19 : Array (Option Value)} {oc19 kV19 dc19 pm19 cd19 ct19 : Value} {f20 : Addr} {od20 an20 : Option Addr} {sl20 : Array (Option Value)} {oc20 kV20 dc20 pm20 cd20 ct20 : Value} {f21 : Addr} {od21 an21 : Option Addr} {sl21 : Array (Option Value)} {oc21 kV21 dc21 pm21 cd21 ct21 : Value} {f22 : Addr} {od22 an22 : Option Addr} {sl22 : Array (Option Value)} {oc22 kV22 dc22 pm22 cd22 ct22 : Value} {f23 : Addr} {od23 an23 : Option Addr} {sl23 : Array (Option Value)} {oc23 kV23 dc23 pm23 cd23 ct23 : Value} {f24 : Addr} {od24 an24 : Option Addr} {sl24 : Array (Option Value)} {oc24 kV24 dc24 pm24 cd24 ct24 : Value} {f25 : Addr} {od25 an25 : Option Addr} {sl25 : Array (Option Value)} {oc25 kV25 dc25 pm25 cd25 ct25 : Value} {f26 : Addr} {od26 an26 : Option Addr} {sl26 : Array (Option Value)} {oc26 kV26 dc26 pm26 cd26 ct26 : Value} {f27 : Addr} {od27 an27 : Option Addr} {sl27 : Array (Option Value)} {oc27 kV27 dc27 pm27 cd27 ct27 : Value} {f28 : Addr} {od28 an28 : Option Addr} {sl28 : Array (Option Value)} {oc28 kV28 dc28 pm28 cd28 ct28 : Value} {f29 : Addr} {od29 an29 : Option Addr} {sl29 : Array (Option Value)} {oc29 kV29 dc29 pm29 cd29 ct29 : Value} {f30 : Addr} {od30 an30 : Option Addr} {sl30 : Array (Option Value)} {oc30 kV30 dc30 pm30 cd30 ct30 : Value} {f31 : Addr} {od31 an31 : Option Addr} {sl31 : Array (Option Value)} {oc31 kV31 dc31 pm31 cd31 ct31 : Value} {f32 : Addr} {od32 an32 : Option Addr} {sl32 : Array (Option Value)} {oc32 kV32 dc32 pm32 cd32 ct32 : Value} {f33 : Addr} {od33 an33 : Option Addr} {sl33 : Array (Option Value)} {oc33 kV33 dc33 pm33 cd33 ct33 : Value} {f34 : Addr} {od34 an34 : Option Addr} {sl34 : Array (Option Value)} {oc34 kV34 dc34 pm34 cd34 ct34 : Value} {f35 : Addr} {od35 an35 : Option Addr} {sl35 : Array (Option Value)} {oc35 kV35 dc35 pm35 cd35 ct35 : Value} {f36 : Addr} {od36 an36 : Option Addr} {sl36 : Array (Option Value)} {oc36 kV36 dc36 pm36 cd36 ct36 : Value} {f37 : Addr} {od37 an37 : Option Addr} {sl37 : Array (Option Value)} {oc37 kV37 dc37 pm37 cd37 ct37 : Value} {f38 : Addr} {od38 an38 : Option Addr} {sl38 : Array (Option Value)} {oc38 kV38 dc38 pm38 cd38 ct38 : Value} {xC0 xN0 : Addr} {xq0 : Str} {xbs0 xsub0 : List Value} {xsn0 : List Str} {xab0 : Bool} {xcol0 : Option Bool} {xdd0 : Option Addr} {xm00 xm01 xm02 xm03 xm05 : Option Value} {xC1 xN1 : Addr} {xq1 : Str} {xbs1 xsub1 : List Value} {xsn1 : List Str} {xab1 : Bool} {xcol1 : Option Bool} {xdd1 : Option Addr} {xm10 xm11 xm12 xm13 xm15 : Option Value} {xfi1 : Addr} {xod1 xan1 : Option Addr} {xsl1 : Array (Option Value)} {xoc1 xkV1 xdc1 xpm1 xcd1 xct1 : Value} {xC2 xN2 : Addr} {xq2 : Str} {xbs2 xsub2 : List Value} {xsn2 : List Str} {xab2 : Bool} {xcol2 : Option Bool} {xdd2 : Option Addr} {xm20 xm21 xm22 xm23 xm25 : Option Value}
    (a0 : PySem.W.nsIn K mainGlobals "own_copy" = some (some (.ref f0))) (l0 : K.lookup f0 = some ⟨oc0, od0, .func (PySem.W.fnOf "own_copy" "own_copy" (defArgs s_own_copy) (defBody s_own_copy) (defScope s_own_copy) .none kV0 dc0 pm0 an0 cd0 ct0), sl0⟩) (c0 : PySem.W.codeIn K cd0 "own_copy" = true) (k0 : PySem.W.keepIn K (.ref f0) = true)
    (a1 : PySem.W.nsIn K mainGlobals "mirrored" = some (some (.ref f1))) (l1 : K.lookup f1 = some ⟨oc1, od1, .func (PySem.W.fnOf "mirrored" "mirrored" (defArgs s_mirrored) (defBody s_mirrored) (defScope s_mirrored) .none kV1 dc1 pm1 an1 cd1 ct1), sl1⟩) (c1 : PySem.W.codeIn K cd1 "mirrored" = true) (k1 : PySem.W.keepIn K (.ref f1) = true)
    (a2 : PySem.W.nsIn K mainGlobals "upside" = some (some (.ref f2))) (l2 : K.lookup f2 = some ⟨oc2, od2, .func (PySem.W.fnOf "upside" "upside" (defArgs s_upside) (defBody s_upside) (defScope s_upside) .none kV2 dc2 pm2 an2 cd2 ct2), sl2⟩) (c2 : PySem.W.codeIn K cd2 "upside" = true) (k2 : PySem.W.keepIn K (.ref f2) = true)
    (a3 : PySem.W.nsIn K mainGlobals "blown" = some (some (.ref f3))) (l3 : K.lookup f3 = some ⟨oc3, od3, .func (PySem.W.fnOf "blown" "blown" (defArgs s_blown) (defBody s_blown) (defScope s_blown) .none kV3 dc3 pm3 an3 cd3 ct3), sl3⟩) (c3 : PySem.W.codeIn K cd3 "blown" = true) (k3 : PySem.W.keepIn K (.ref f3) = true)
    (a4 : PySem.W.nsIn K mainGlobals "cut_to" = some (some (.ref f4))) (l4 : K.lookup f4 = some ⟨oc4, od4, .func (PySem.W.fnOf "cut_to" "cut_to" (defArgs s_cut_to) (defBody s_cut_to) (defScope s_cut_to) .none kV4 dc4 pm4 an4 cd4 ct4), sl4⟩) (c4 : PySem.W.codeIn K cd4 "cut_to" = true) (k4 : PySem.W.keepIn K (.ref f4) = true)
    (a5 : PySem.W.nsIn K mainGlobals "cut_onward" = some (some (.ref f5))) (l5 : K.lookup f5 = some ⟨oc5, od5, .func (PySem.W.fnOf "cut_onward" "cut_onward" (defArgs s_cut_onward) (defBody s_cut_onward) (defScope s_cut_onward) .none kV5 dc5 pm5 an5 cd5 ct5), sl5⟩) (c5 : PySem.W.codeIn K cd5 "cut_onward" = true) (k5 : PySem.W.keepIn K (.ref f5) = true)
    (a6 : PySem.W.nsIn K mainGlobals "days" = some (some (.ref f6))) (l6 : K.lookup f6 = some ⟨oc6, od6, .func (PySem.W.fnOf "days" "days" (defArgs s_days) (defBody s_days) (defScope s_days) .none kV6 dc6 pm6 an6 cd6 ct6), sl6⟩) (c6 : PySem.W.codeIn K cd6 "days" = true) (k6 : PySem.W.keepIn K (.ref f6) = true)
    (a7 : PySem.W.nsIn K mainGlobals "behind" = some (some (.ref f7))) (l7 : K.lookup f7 = some ⟨oc7, od7, .func (PySem.W.fnOf "behind" "behind" (defArgs s_behind) (defBody s_behind) (defScope s_behind) .none kV7 dc7 pm7 an7 cd7 ct7), sl7⟩) (c7 : PySem.W.codeIn K cd7 "behind" = true) (k7 : PySem.W.keepIn K (.ref f7) = true)
    (a8 : PySem.W.nsIn K mainGlobals "almanac_of" = some (some (.ref f8))) (l8 : K.lookup f8 = some ⟨oc8, od8, .func (PySem.W.fnOf "almanac_of" "almanac_of" (defArgs s_almanac_of) (defBody s_almanac_of) (defScope s_almanac_of) .none kV8 dc8 pm8 an8 cd8 ct8), sl8⟩) (c8 : PySem.W.codeIn K cd8 "almanac_of" = true) (k8 : PySem.W.keepIn K (.ref f8) = true)
    (a9 : PySem.W.nsIn K mainGlobals "are_contrary" = some (some (.ref f9))) (l9 : K.lookup f9 = some ⟨oc9, od9, .func (PySem.W.fnOf "are_contrary" "are_contrary" (defArgs s_are_contrary) (defBody s_are_contrary) (defScope s_are_contrary) .none kV9 dc9 pm9 an9 cd9 ct9), sl9⟩) (c9 : PySem.W.codeIn K cd9 "are_contrary" = true) (k9 : PySem.W.keepIn K (.ref f9) = true)
    (a10 : PySem.W.nsIn K mainGlobals "first_clash" = some (some (.ref f10))) (l10 : K.lookup f10 = some ⟨oc10, od10, .func (PySem.W.fnOf "first_clash" "first_clash" (defArgs s_first_clash) (defBody s_first_clash) (defScope s_first_clash) .none kV10 dc10 pm10 an10 cd10 ct10), sl10⟩) (c10 : PySem.W.codeIn K cd10 "first_clash" = true) (k10 : PySem.W.keepIn K (.ref f10) = true)
    (a11 : PySem.W.nsIn K mainGlobals "refuse_clash" = some (some (.ref f11))) (l11 : K.lookup f11 = some ⟨oc11, od11, .func (PySem.W.fnOf "refuse_clash" "refuse_clash" (defArgs s_refuse_clash) (defBody s_refuse_clash) (defScope s_refuse_clash) .none kV11 dc11 pm11 an11 cd11 ct11), sl11⟩) (c11 : PySem.W.codeIn K cd11 "refuse_clash" = true) (k11 : PySem.W.keepIn K (.ref f11) = true)
    (a12 : PySem.W.nsIn K mainGlobals "least_ahead" = some (some (.ref f12))) (l12 : K.lookup f12 = some ⟨oc12, od12, .func (PySem.W.fnOf "least_ahead" "least_ahead" (defArgs s_least_ahead) (defBody s_least_ahead) (defScope s_least_ahead) .none kV12 dc12 pm12 an12 cd12 ct12), sl12⟩) (c12 : PySem.W.codeIn K cd12 "least_ahead" = true) (k12 : PySem.W.keepIn K (.ref f12) = true)
    (a13 : PySem.W.nsIn K mainGlobals "most_ahead" = some (some (.ref f13))) (l13 : K.lookup f13 = some ⟨oc13, od13, .func (PySem.W.fnOf "most_ahead" "most_ahead" (defArgs s_most_ahead) (defBody s_most_ahead) (defScope s_most_ahead) .none kV13 dc13 pm13 an13 cd13 ct13), sl13⟩) (c13 : PySem.W.codeIn K cd13 "most_ahead" = true) (k13 : PySem.W.keepIn K (.ref f13) = true)
    (a14 : PySem.W.nsIn K mainGlobals "bounds" = some (some (.ref f14))) (l14 : K.lookup f14 = some ⟨oc14, od14, .func (PySem.W.fnOf "bounds" "bounds" (defArgs s_bounds) (defBody s_bounds) (defScope s_bounds) .none kV14 dc14 pm14 an14 cd14 ct14), sl14⟩) (c14 : PySem.W.codeIn K cd14 "bounds" = true) (k14 : PySem.W.keepIn K (.ref f14) = true)
    (a15 : PySem.W.nsIn K mainGlobals "order_with" = some (some (.ref f15))) (l15 : K.lookup f15 = some ⟨oc15, od15, .func (PySem.W.fnOf "order_with" "order_with" (defArgs s_order_with) (defBody s_order_with) (defScope s_order_with) .none kV15 dc15 pm15 an15 cd15 ct15), sl15⟩) (c15 : PySem.W.codeIn K cd15 "order_with" = true) (k15 : PySem.W.keepIn K (.ref f15) = true)
    (a16 : PySem.W.nsIn K mainGlobals "least_order" = some (some (.ref f16))) (l16 : K.lookup f16 = some ⟨oc16, od16, .func (PySem.W.fnOf "least_order" "least_order" (defArgs s_least_order) (defBody s_least_order) (defScope s_least_order) .none kV16 dc16 pm16 an16 cd16 ct16), sl16⟩) (c16 : PySem.W.codeIn K cd16 "least_order" = true) (k16 : PySem.W.keepIn K (.ref f16) = true)
    (a17 : PySem.W.nsIn K mainGlobals "greatest_order" = some (some (.ref f17))) (l17 : K.lookup f17 = some ⟨oc17, od17, .func (PySem.W.fnOf "greatest_order" "greatest_order" (defArgs s_greatest_order) (defBody s_greatest_order) (defScope s_greatest_order) .none kV17 dc17 pm17 an17 cd17 ct17), sl17⟩) (c17 : PySem.W.codeIn K cd17 "greatest_order" = true) (k17 : PySem.W.keepIn K (.ref f17) = true)
    (a18 : PySem.W.nsIn K mainGlobals "may_stand" = some (some (.ref f18))) (l18 : K.lookup f18 = some ⟨oc18, od18, .func (PySem.W.fnOf "may_stand" "may_stand" (defArgs s_may_stand) (defBody s_may_stand) (defScope s_may_stand) .none kV18 dc18 pm18 an18 cd18 ct18), sl18⟩) (c18 : PySem.W.codeIn K cd18 "may_stand" = true) (k18 : PySem.W.keepIn K (.ref f18) = true)
    (a19 : PySem.W.nsIn K mainGlobals "sure_posts" = some (some (.ref f19))) (l19 : K.lookup f19 = some ⟨oc19, od19, .func (PySem.W.fnOf "sure_posts" "sure_posts" (defArgs s_sure_posts) (defBody s_sure_posts) (defScope s_sure_posts) .none kV19 dc19 pm19 an19 cd19 ct19), sl19⟩) (c19 : PySem.W.codeIn K cd19 "sure_posts" = true) (k19 : PySem.W.keepIn K (.ref f19) = true)
    (a20 : PySem.W.nsIn K mainGlobals "is_enough" = some (some (.ref f20))) (l20 : K.lookup f20 = some ⟨oc20, od20, .func (PySem.W.fnOf "is_enough" "is_enough" (defArgs s_is_enough) (defBody s_is_enough) (defScope s_is_enough) .none kV20 dc20 pm20 an20 cd20 ct20), sl20⟩) (c20 : PySem.W.codeIn K cd20 "is_enough" = true) (k20 : PySem.W.keepIn K (.ref f20) = true)
    (a21 : PySem.W.nsIn K mainGlobals "_law_cell_at" = some (some (.ref f21))) (l21 : K.lookup f21 = some ⟨oc21, od21, .func (PySem.W.fnOf "_law_cell_at" "_law_cell_at" (defArgs s__law_cell_at) (defBody s__law_cell_at) (defScope s__law_cell_at) .none kV21 dc21 pm21 an21 cd21 ct21), sl21⟩) (c21 : PySem.W.codeIn K cd21 "_law_cell_at" = true) (k21 : PySem.W.keepIn K (.ref f21) = true)
    (a22 : PySem.W.nsIn K mainGlobals "_law_box" = some (some (.ref f22))) (l22 : K.lookup f22 = some ⟨oc22, od22, .func (PySem.W.fnOf "_law_box" "_law_box" (defArgs s__law_box) (defBody s__law_box) (defScope s__law_box) .none kV22 dc22 pm22 an22 cd22 ct22), sl22⟩) (c22 : PySem.W.codeIn K cd22 "_law_box" = true) (k22 : PySem.W.keepIn K (.ref f22) = true)
    (a23 : PySem.W.nsIn K mainGlobals "_law_take" = some (some (.ref f23))) (l23 : K.lookup f23 = some ⟨oc23, od23, .func (PySem.W.fnOf "_law_take" "_law_take" (defArgs s__law_take) (defBody s__law_take) (defScope s__law_take) .none kV23 dc23 pm23 an23 cd23 ct23), sl23⟩) (c23 : PySem.W.codeIn K cd23 "_law_take" = true) (k23 : PySem.W.keepIn K (.ref f23) = true)
    (a24 : PySem.W.nsIn K mainGlobals "_law_same" = some (some (.ref f24))) (l24 : K.lookup f24 = some ⟨oc24, od24, .func (PySem.W.fnOf "_law_same" "_law_same" (defArgs s__law_same) (defBody s__law_same) (defScope s__law_same) .none kV24 dc24 pm24 an24 cd24 ct24), sl24⟩) (c24 : PySem.W.codeIn K cd24 "_law_same" = true) (k24 : PySem.W.keepIn K (.ref f24) = true)
    (a25 : PySem.W.nsIn K mainGlobals "_law_blown" = some (some (.ref f25))) (l25 : K.lookup f25 = some ⟨oc25, od25, .func (PySem.W.fnOf "_law_blown" "_law_blown" (defArgs s__law_blown) (defBody s__law_blown) (defScope s__law_blown) .none kV25 dc25 pm25 an25 cd25 ct25), sl25⟩) (c25 : PySem.W.codeIn K cd25 "_law_blown" = true) (k25 : PySem.W.keepIn K (.ref f25) = true)
    (a26 : PySem.W.nsIn K mainGlobals "_law_behind" = some (some (.ref f26))) (l26 : K.lookup f26 = some ⟨oc26, od26, .func (PySem.W.fnOf "_law_behind" "_law_behind" (defArgs s__law_behind) (defBody s__law_behind) (defScope s__law_behind) .none kV26 dc26 pm26 an26 cd26 ct26), sl26⟩) (c26 : PySem.W.codeIn K cd26 "_law_behind" = true) (k26 : PySem.W.keepIn K (.ref f26) = true)
    (a27 : PySem.W.nsIn K mainGlobals "_law_dune" = some (some (.ref f27))) (l27 : K.lookup f27 = some ⟨oc27, od27, .func (PySem.W.fnOf "_law_dune" "_law_dune" (defArgs s__law_dune) (defBody s__law_dune) (defScope s__law_dune) .none kV27 dc27 pm27 an27 cd27 ct27), sl27⟩) (c27 : PySem.W.codeIn K cd27 "_law_dune" = true) (k27 : PySem.W.keepIn K (.ref f27) = true)
    (a28 : PySem.W.nsIn K mainGlobals "_law_slope" = some (some (.ref f28))) (l28 : K.lookup f28 = some ⟨oc28, od28, .func (PySem.W.fnOf "_law_slope" "_law_slope" (defArgs s__law_slope) (defBody s__law_slope) (defScope s__law_slope) .none kV28 dc28 pm28 an28 cd28 ct28), sl28⟩) (c28 : PySem.W.codeIn K cd28 "_law_slope" = true) (k28 : PySem.W.keepIn K (.ref f28) = true)
    (a29 : PySem.W.nsIn K mainGlobals "_law_books" = some (some (.ref f29))) (l29 : K.lookup f29 = some ⟨oc29, od29, .func (PySem.W.fnOf "_law_books" "_law_books" (defArgs s__law_books) (defBody s__law_books) (defScope s__law_books) .none kV29 dc29 pm29 an29 cd29 ct29), sl29⟩) (c29 : PySem.W.codeIn K cd29 "_law_books" = true) (k29 : PySem.W.keepIn K (.ref f29) = true)
    (a30 : PySem.W.nsIn K mainGlobals "_law_orders" = some (some (.ref f30))) (l30 : K.lookup f30 = some ⟨oc30, od30, .func (PySem.W.fnOf "_law_orders" "_law_orders" (defArgs s__law_orders) (defBody s__law_orders) (defScope s__law_orders) .none kV30 dc30 pm30 an30 cd30 ct30), sl30⟩) (c30 : PySem.W.codeIn K cd30 "_law_orders" = true) (k30 : PySem.W.keepIn K (.ref f30) = true)
    (a31 : PySem.W.nsIn K mainGlobals "_law_almanac" = some (some (.ref f31))) (l31 : K.lookup f31 = some ⟨oc31, od31, .func (PySem.W.fnOf "_law_almanac" "_law_almanac" (defArgs s__law_almanac) (defBody s__law_almanac) (defScope s__law_almanac) .none kV31 dc31 pm31 an31 cd31 ct31), sl31⟩) (c31 : PySem.W.codeIn K cd31 "_law_almanac" = true) (k31 : PySem.W.keepIn K (.ref f31) = true)
    (a32 : PySem.W.nsIn K mainGlobals "_law_order" = some (some (.ref f32))) (l32 : K.lookup f32 = some ⟨oc32, od32, .func (PySem.W.fnOf "_law_order" "_law_order" (defArgs s__law_order) (defBody s__law_order) (defScope s__law_order) .none kV32 dc32 pm32 an32 cd32 ct32), sl32⟩) (c32 : PySem.W.codeIn K cd32 "_law_order" = true) (k32 : PySem.W.keepIn K (.ref f32) = true)
    (a33 : PySem.W.nsIn K mainGlobals "_law_has" = some (some (.ref f33))) (l33 : K.lookup f33 = some ⟨oc33, od33, .func (PySem.W.fnOf "_law_has" "_law_has" (defArgs s__law_has) (defBody s__law_has) (defScope s__law_has) .none kV33 dc33 pm33 an33 cd33 ct33), sl33⟩) (c33 : PySem.W.codeIn K cd33 "_law_has" = true) (k33 : PySem.W.keepIn K (.ref f33) = true)
    (a34 : PySem.W.nsIn K mainGlobals "_law_words" = some (some (.ref f34))) (l34 : K.lookup f34 = some ⟨oc34, od34, .func (PySem.W.fnOf "_law_words" "_law_words" (defArgs s__law_words) (defBody s__law_words) (defScope s__law_words) .none kV34 dc34 pm34 an34 cd34 ct34), sl34⟩) (c34 : PySem.W.codeIn K cd34 "_law_words" = true) (k34 : PySem.W.keepIn K (.ref f34) = true)
    (a35 : PySem.W.nsIn K mainGlobals "_law_told" = some (some (.ref f35))) (l35 : K.lookup f35 = some ⟨oc35, od35, .func (PySem.W.fnOf "_law_told" "_law_told" (defArgs s__law_told) (defBody s__law_told) (defScope s__law_told) .none kV35 dc35 pm35 an35 cd35 ct35), sl35⟩) (c35 : PySem.W.codeIn K cd35 "_law_told" = true) (k35 : PySem.W.keepIn K (.ref f35) = true)
    (a36 : PySem.W.nsIn K mainGlobals "_law_clash" = some (some (.ref f36))) (l36 : K.lookup f36 = some ⟨oc36, od36, .func (PySem.W.fnOf "_law_clash" "_law_clash" (defArgs s__law_clash) (defBody s__law_clash) (defScope s__law_clash) .none kV36 dc36 pm36 an36 cd36 ct36), sl36⟩) (c36 : PySem.W.codeIn K cd36 "_law_clash" = true) (k36 : PySem.W.keepIn K (.ref f36) = true)
    (a37 : PySem.W.nsIn K mainGlobals "_law_right" = some (some (.ref f37))) (l37 : K.lookup f37 = some ⟨oc37, od37, .func (PySem.W.fnOf "_law_right" "_law_right" (defArgs s__law_right) (defBody s__law_right) (defScope s__law_right) .none kV37 dc37 pm37 an37 cd37 ct37), sl37⟩) (c37 : PySem.W.codeIn K cd37 "_law_right" = true) (k37 : PySem.W.keepIn K (.ref f37) = true)
    (a38 : PySem.W.nsIn K mainGlobals "law" = some (some (.ref f38))) (l38 : K.lookup f38 = some ⟨oc38, od38, .func (PySem.W.fnOf "law" "law" (defArgs s_law) (defBody s_law) (defScope s_law) .none kV38 dc38 pm38 an38 cd38 ct38), sl38⟩) (c38 : PySem.W.codeIn K cd38 "law" = true) (k38 : PySem.W.keepIn K (.ref f38) = true)
    (xh : PySem.W.specialIn K (.builtin "object.__class__") "__get__" = some (some (.builtin "getset_descriptor.__get__"))) (xt : PySem.W.takesIn K (.builtin "object.__class__") = some true)
    (xa0 : PySem.W.nsIn K mainGlobals "Against" = some (some (.ref xC0))) (xl0 : K.lookup xC0 = some (excClassObj "Against" xq0 xC0 xN0 xbs0 [.type "ValueError", .type "Exception", .type "BaseException", .type "object"] true xsn0 xsub0 xab0 xcol0 xdd0 xm00 xm01 xm02 xm03 xm05 "ValueError.__new__"))
    (xs0 : PySem.W.findIn K (.ref xC0) "__setattr__" = some (some (.builtin "object.__setattr__"))) (xg0 : PySem.W.findIn K (.ref xC0) "__getattribute__" = some (some (.builtin "BaseException.__getattribute__"))) (xo0 : PySem.W.findIn K (.ref xC0) "__getattr__" = some none) (xc0 : PySem.W.findIn K (.ref xC0) "__class__" = some (some (.builtin "object.__class__")))
    (xf0 : PySem.W.findIn K (.ref xC0) "place" = some none) (xk0 : PySem.W.keepIn K (.ref xC0) = true) (xe0 : PySem.W.subIn K (.ref xC0) (.type "BaseException") = some true) (xy0 : PySem.W.typeIn K (.ref xC0) = some (.type "type"))
    (xa1 : PySem.W.nsIn K mainGlobals "Clash" = some (some (.ref xC1))) (xl1 : K.lookup xC1 = some (excClassObj "Clash" xq1 xC1 xN1 xbs1 [.type "ValueError", .type "Exception", .type "BaseException", .type "object"] true xsn1 xsub1 xab1 xcol1 xdd1 xm10 xm11 xm12 xm13 xm15 "ValueError.__new__"))
    (xs1 : PySem.W.findIn K (.ref xC1) "__setattr__" = some (some (.builtin "object.__setattr__"))) (xg1 : PySem.W.findIn K (.ref xC1) "__getattribute__" = some (some (.builtin "BaseException.__getattribute__"))) (xo1 : PySem.W.findIn K (.ref xC1) "__getattr__" = some none) (xc1 : PySem.W.findIn K (.ref xC1) "__class__" = some (some (.builtin "object.__class__")))
    (xf1 : PySem.W.findIn K (.ref xC1) "places" = some none) (xk1 : PySem.W.keepIn K (.ref xC1) = true) (xe1 : PySem.W.subIn K (.ref xC1) (.type "BaseException") = some true) (xy1 : PySem.W.typeIn K (.ref xC1) = some (.type "type"))
    (xi1 : PySem.W.findIn K (.ref xC1) "__init__" = some (some (.ref xfi1))) (xw1 : PySem.W.typeIn K (.ref xfi1) = some (.type "function")) (xj1 : K.lookup xfi1 = some ⟨xoc1, xod1, .func (PySem.W.fnOf "__init__" "Clash.__init__" (defArgs si_Clash) (defBody si_Clash) (defScope si_Clash) .none xkV1 xdc1 xpm1 xan1 xcd1 xct1), xsl1⟩) (xr1 : PySem.W.codeIn K xcd1 "Clash.__init__" = true) (xz1 : PySem.W.keepIn K (.ref xfi1) = true) (xv1 : PySem.W.findCls K (.type "ValueError") (.type "type") "__init__" = some (.val (.builtin "ValueError.__init__")))
    (xa2 : PySem.W.nsIn K mainGlobals "Unlike" = some (some (.ref xC2))) (xl2 : K.lookup xC2 = some (excClassObj "Unlike" xq2 xC2 xN2 xbs2 [.type "ValueError", .type "Exception", .type "BaseException", .type "object"] true xsn2 xsub2 xab2 xcol2 xdd2 xm20 xm21 xm22 xm23 xm25 "ValueError.__new__"))
    (xs2 : PySem.W.findIn K (.ref xC2) "__setattr__" = some (some (.builtin "object.__setattr__"))) (xg2 : PySem.W.findIn K (.ref xC2) "__getattribute__" = some (some (.builtin "BaseException.__getattribute__"))) (xo2 : PySem.W.findIn K (.ref xC2) "__getattr__" = some none) (xc2 : PySem.W.findIn K (.ref xC2) "__class__" = some (some (.builtin "object.__class__")))
    (xf2 : PySem.W.findIn K (.ref xC2) "many" = some none) (xk2 : PySem.W.keepIn K (.ref xC2) = true) (xe2 : PySem.W.subIn K (.ref xC2) (.type "BaseException") = some true) (xy2 : PySem.W.typeIn K (.ref xC2) = some (.type "type"))
    (z0 : PySem.W.nsIn K mainGlobals "ValueError" = some none)
    (z1 : PySem.W.nsIn K mainGlobals "abs" = some none)
    (z2 : PySem.W.nsIn K mainGlobals "all" = some none)
    (z3 : PySem.W.nsIn K mainGlobals "any" = some none)
    (z4 : PySem.W.nsIn K mainGlobals "bool" = some none)
    (z5 : PySem.W.nsIn K mainGlobals "enumerate" = some none)
    (z6 : PySem.W.nsIn K mainGlobals "int" = some none)
    (z7 : PySem.W.nsIn K mainGlobals "isinstance" = some none)
    (z8 : PySem.W.nsIn K mainGlobals "len" = some none)
    (z9 : PySem.W.nsIn K mainGlobals "list" = some none)
    (z10 : PySem.W.nsIn K mainGlobals "max" = some none)
    (z11 : PySem.W.nsIn K mainGlobals "min" = some none)
    (z12 : PySem.W.nsIn K mainGlobals "range" = some none)
    (z13 : PySem.W.nsIn K mainGlobals "str" = some none)
    (z14 : PySem.W.nsIn K mainGlobals "tuple" = some none)
    (z15 : PySem.W.nsIn K mainGlobals "zip" = some none) :
    ∃ fd : FuncData, (∀ (s : Shared) (v : Value), BindsTo s fd ⟨[v], []⟩ [("_law_script", v)]) ∧ ∀ base : Heap, K.In base → base.Ns mainGlobals mg → FnOk l.prog w K mg base CX0 20 fa fd ["_law_script"] (spA K 1 g_law) := by
  have e := hfa.symm.trans (PySem.W.mg_of X G a38)
  cases e
  exact ⟨PySem.W.fnOf "law" "law" (defArgs s_law) (defBody s_law) (defScope s_law) .none kV38 dc38 pm38 an38 cd38 ct38, fun s v => .of_eq rfl, fun base _ _ => ok_law { f_own_copy := _, fd_own_copy := _, F_own_copy := fun_mk (st := s_own_copy) l0 c0 k0, m_own_copy := PySem.W.mg_of X G a0, b_own_copy := (fun_mk (st := s_own_copy) l0 c0 k0).binds (ps := ["thing"]) (fun _ _ _ _ _ _ us hl => match us, hl with | [_], _ => rfl), f_mirrored := _, fd_mirrored := _, F_mirrored := fun_mk (st := s_mirrored) l1 c1 k1, m_mirrored := PySem.W.mg_of X G a1, b_mirrored := (fun_mk (st := s_mirrored) l1 c1 k1).binds (ps := ["dune"]) (fun _ _ _ _ _ _ us hl => match us, hl with | [_], _ => rfl), f_upside := _, fd_upside := _, F_upside := fun_mk (st := s_upside) l2 c2 k2, m_upside := PySem.W.mg_of X G a2, b_upside := (fun_mk (st := s_upside) l2 c2 k2).binds (ps := ["dune"]) (fun _ _ _ _ _ _ us hl => match us, hl with | [_], _ => rfl), f_blown := _, fd_blown := _, F_blown := fun_mk (st := s_blown) l3 c3 k3, m_blown := PySem.W.mg_of X G a3, b_blown := (fun_mk (st := s_blown) l3 c3 k3).binds (ps := ["dune", "wind"]) (fun _ _ _ _ _ _ us hl => match us, hl with | [_, _], _ => rfl), f_cut_to := _, fd_cut_to := _, F_cut_to := fun_mk (st := s_cut_to) l4 c4 k4, m_cut_to := PySem.W.mg_of X G a4, b_cut_to := (fun_mk (st := s_cut_to) l4 c4 k4).binds (ps := ["dune", "slope"]) (fun _ _ _ _ _ _ us hl => match us, hl with | [_, _], _ => rfl), f_cut_onward := _, fd_cut_onward := _, F_cut_onward := fun_mk (st := s_cut_onward) l5 c5 k5, m_cut_onward := PySem.W.mg_of X G a5, b_cut_onward := (fun_mk (st := s_cut_onward) l5 c5 k5).binds (ps := ["dune", "slope"]) (fun _ _ _ _ _ _ us hl => match us, hl with | [_, _], _ => rfl), f_days := _, fd_days := _, F_days := fun_mk (st := s_days) l6 c6 k6, m_days := PySem.W.mg_of X G a6, b_days := (fun_mk (st := s_days) l6 c6 k6).binds (ps := ["dune", "almanac"]) (fun _ _ _ _ _ _ us hl => match us, hl with | [_, _], _ => rfl), f_behind := _, fd_behind := _, F_behind := fun_mk (st := s_behind) l7 c7 k7, m_behind := PySem.W.mg_of X G a7, b_behind := (fun_mk (st := s_behind) l7 c7 k7).binds (ps := ["dune", "almanac"]) (fun _ _ _ _ _ _ us hl => match us, hl with | [_, _], _ => rfl), f_almanac_of := _, fd_almanac_of := _, F_almanac_of := fun_mk (st := s_almanac_of) l8 c8 k8, m_almanac_of := PySem.W.mg_of X G a8, b_almanac_of := (fun_mk (st := s_almanac_of) l8 c8 k8).binds (ps := ["cuts", "fills", "order"]) (fun _ _ _ _ _ _ us hl => match us, hl with | [_, _, _], _ => rfl), f_are_contrary := _, fd_are_contrary := _, F_are_contrary := fun_mk (st := s_are_contrary) l9 c9 k9, m_are_contrary := PySem.W.mg_of X G a9, b_are_contrary := (fun_mk (st := s_are_contrary) l9 c9 k9).binds (ps := ["one", "other"]) (fun _ _ _ _ _ _ us hl => match us, hl with | [_, _], _ => rfl), f_first_clash := _, fd_first_clash := _, F_first_clash := fun_mk (st := s_first_clash) l10 c10 k10, m_first_clash := PySem.W.mg_of X G a10, b_first_clash := (fun_mk (st := s_first_clash) l10 c10 k10).binds (ps := ["words"]) (fun _ _ _ _ _ _ us hl => match us, hl with | [_], _ => rfl), f_refuse_clash := _, fd_refuse_clash := _, F_refuse_clash := fun_mk (st := s_refuse_clash) l11 c11 k11, m_refuse_clash := PySem.W.mg_of X G a11, b_refuse_clash := (fun_mk (st := s_refuse_clash) l11 c11 k11).binds (ps := ["words"]) (fun _ _ _ _ _ _ us hl => match us, hl with | [_], _ => rfl), f_least_ahead := _, fd_least_ahead := _, F_least_ahead := fun_mk (st := s_least_ahead) l12 c12 k12, m_least_ahead := PySem.W.mg_of X G a12, b_least_ahead := (fun_mk (st := s_least_ahead) l12 c12 k12).binds (ps := ["words", "fill"]) (fun _ _ _ _ _ _ us hl => match us, hl with | [_, _], _ => rfl), f_most_ahead := _, fd_most_ahead := _, F_most_ahead := fun_mk (st := s_most_ahead) l13 c13 k13, m_most_ahead := PySem.W.mg_of X G a13, b_most_ahead := (fun_mk (st := s_most_ahead) l13 c13 k13).binds (ps := ["cuts", "words", "fill"]) (fun _ _ _ _ _ _ us hl => match us, hl with | [_, _, _], _ => rfl), f_bounds := _, fd_bounds := _, F_bounds := fun_mk (st := s_bounds) l14 c14 k14, m_bounds := PySem.W.mg_of X G a14, b_bounds := (fun_mk (st := s_bounds) l14 c14 k14).binds (ps := ["cuts", "fills", "words"]) (fun _ _ _ _ _ _ us hl => match us, hl with | [_, _, _], _ => rfl), f_order_with := _, fd_order_with := _, F_order_with := fun_mk (st := s_order_with) l15 c15 k15, m_order_with := PySem.W.mg_of X G a15, b_order_with := (fun_mk (st := s_order_with) l15 c15 k15).binds (ps := ["ahead", "many"]) (fun _ _ _ _ _ _ us hl => match us, hl with | [_, _], _ => rfl), f_least_order := _, fd_least_order := _, F_least_order := fun_mk (st := s_least_order) l16 c16 k16, m_least_order := PySem.W.mg_of X G a16, b_least_order := (fun_mk (st := s_least_order) l16 c16 k16).binds (ps := ["cuts", "fills", "words"]) (fun _ _ _ _ _ _ us hl => match us, hl with | [_, _, _], _ => rfl), f_greatest_order := _, fd_greatest_order := _, F_greatest_order := fun_mk (st := s_greatest_order) l17 c17 k17, m_greatest_order := PySem.W.mg_of X G a17, b_greatest_order := (fun_mk (st := s_greatest_order) l17 c17 k17).binds (ps := ["cuts", "fills", "words"]) (fun _ _ _ _ _ _ us hl => match us, hl with | [_, _, _], _ => rfl), f_may_stand := _, fd_may_stand := _, F_may_stand := fun_mk (st := s_may_stand) l18 c18 k18, m_may_stand := PySem.W.mg_of X G a18, b_may_stand := (fun_mk (st := s_may_stand) l18 c18 k18).binds (ps := ["dune", "cuts", "fills", "words"]) (fun _ _ _ _ _ _ us hl => match us, hl with | [_, _, _, _], _ => rfl), f_sure_posts := _, fd_sure_posts := _, F_sure_posts := fun_mk (st := s_sure_posts) l19 c19 k19, m_sure_posts := PySem.W.mg_of X G a19, b_sure_posts := (fun_mk (st := s_sure_posts) l19 c19 k19).binds (ps := ["dune", "cuts", "fills", "words"]) (fun _ _ _ _ _ _ us hl => match us, hl with | [_, _, _, _], _ => rfl), f_is_enough := _, fd_is_enough := _, F_is_enough := fun_mk (st := s_is_enough) l20 c20 k20, m_is_enough := PySem.W.mg_of X G a20, b_is_enough := (fun_mk (st := s_is_enough) l20 c20 k20).binds (ps := ["dune", "cuts", "fills", "words"]) (fun _ _ _ _ _ _ us hl => match us, hl with | [_, _, _, _], _ => rfl), f__law_cell_at := _, fd__law_cell_at := _, F__law_cell_at := fun_mk (st := s__law_cell_at) l21 c21 k21, m__law_cell_at := PySem.W.mg_of X G a21, b__law_cell_at := (fun_mk (st := s__law_cell_at) l21 c21 k21).binds (ps := ["_law_script", "_law_k"]) (fun _ _ _ _ _ _ us hl => match us, hl with | [_, _], _ => rfl), f__law_box := _, fd__law_box := _, F__law_box := fun_mk (st := s__law_box) l22 c22 k22, m__law_box := PySem.W.mg_of X G a22, b__law_box := (fun_mk (st := s__law_box) l22 c22 k22).binds (ps := ["_law_script", "_law_k"]) (fun _ _ _ _ _ _ us hl => match us, hl with | [_, _], _ => rfl), f__law_take := _, fd__law_take := _, F__law_take := fun_mk (st := s__law_take) l23 c23 k23, m__law_take := PySem.W.mg_of X G a23, b__law_take := (fun_mk (st := s__law_take) l23 c23 k23).binds (ps := ["_law_box_here", "_law_size"]) (fun _ _ _ _ _ _ us hl => match us, hl with | [_, _], _ => rfl), f__law_same := _, fd__law_same := _, F__law_same := fun_mk (st := s__law_same) l24 c24 k24, m__law_same := PySem.W.mg_of X G a24, b__law_same := (fun_mk (st := s__law_same) l24 c24 k24).binds (ps := ["_law_told_here", "_law_due"]) (fun _ _ _ _ _ _ us hl => match us, hl with | [_, _], _ => rfl), f__law_blown := _, fd__law_blown := _, F__law_blown := fun_mk (st := s__law_blown) l25 c25 k25, m__law_blown := PySem.W.mg_of X G a25, b__law_blown := (fun_mk (st := s__law_blown) l25 c25 k25).binds (ps := ["_law_dune_here", "_law_wind"]) (fun _ _ _ _ _ _ us hl => match us, hl with | [_, _], _ => rfl), f__law_behind := _, fd__law_behind := _, F__law_behind := fun_mk (st := s__law_behind) l26 c26 k26, m__law_behind := PySem.W.mg_of X G a26, b__law_behind := (fun_mk (st := s__law_behind) l26 c26 k26).binds (ps := ["_law_dune_here", "_law_winds"]) (fun _ _ _ _ _ _ us hl => match us, hl with | [_, _], _ => rfl), f__law_dune := _, fd__law_dune := _, F__law_dune := fun_mk (st := s__law_dune) l27 c27 k27, m__law_dune := PySem.W.mg_of X G a27, b__law_dune := (fun_mk (st := s__law_dune) l27 c27 k27).binds (ps := ["_law_box_here", "_law_size"]) (fun _ _ _ _ _ _ us hl => match us, hl with | [_, _], _ => rfl), f__law_slope := _, fd__law_slope := _, F__law_slope := fun_mk (st := s__law_slope) l28 c28 k28, m__law_slope := PySem.W.mg_of X G a28, b__law_slope := (fun_mk (st := s__law_slope) l28 c28 k28).binds (ps := ["_law_box_here"]) (fun _ _ _ _ _ _ us hl => match us, hl with | [_], _ => rfl), f__law_books := _, fd__law_books := _, F__law_books := fun_mk (st := s__law_books) l29 c29 k29, m__law_books := PySem.W.mg_of X G a29, b__law_books := (fun_mk (st := s__law_books) l29 c29 k29).binds (ps := ["_law_box_here", "_law_size"]) (fun _ _ _ _ _ _ us hl => match us, hl with | [_, _], _ => rfl), f__law_orders := _, fd__law_orders := _, F__law_orders := fun_mk (st := s__law_orders) l30 c30 k30, m__law_orders := PySem.W.mg_of X G a30, b__law_orders := (fun_mk (st := s__law_orders) l30 c30 k30).binds (ps := ["_law_cuts", "_law_fills"]) (fun _ _ _ _ _ _ us hl => match us, hl with | [_, _], _ => rfl), f__law_almanac := _, fd__law_almanac := _, F__law_almanac := fun_mk (st := s__law_almanac) l31 c31 k31, m__law_almanac := PySem.W.mg_of X G a31, b__law_almanac := (fun_mk (st := s__law_almanac) l31 c31 k31).binds (ps := ["_law_cuts", "_law_fills", "_law_order_here"]) (fun _ _ _ _ _ _ us hl => match us, hl with | [_, _, _], _ => rfl), f__law_order := _, fd__law_order := _, F__law_order := fun_mk (st := s__law_order) l32 c32 k32, m__law_order := PySem.W.mg_of X G a32, b__law_order := (fun_mk (st := s__law_order) l32 c32 k32).binds (ps := ["_law_box_here", "_law_cuts", "_law_fills"]) (fun _ _ _ _ _ _ us hl => match us, hl with | [_, _, _], _ => rfl), f__law_has := _, fd__law_has := _, F__law_has := fun_mk (st := s__law_has) l33 c33 k33, m__law_has := PySem.W.mg_of X G a33, b__law_has := (fun_mk (st := s__law_has) l33 c33 k33).binds (ps := ["_law_order_here", "_law_word"]) (fun _ _ _ _ _ _ us hl => match us, hl with | [_, _], _ => rfl), f__law_words := _, fd__law_words := _, F__law_words := fun_mk (st := s__law_words) l34 c34 k34, m__law_words := PySem.W.mg_of X G a34, b__law_words := (fun_mk (st := s__law_words) l34 c34 k34).binds (ps := ["_law_box_here", "_law_order_here", "_law_size"]) (fun _ _ _ _ _ _ us hl => match us, hl with | [_, _, _], _ => rfl), f__law_told := _, fd__law_told := _, F__law_told := fun_mk (st := s__law_told) l35 c35 k35, m__law_told := PySem.W.mg_of X G a35, b__law_told := (fun_mk (st := s__law_told) l35 c35 k35).binds (ps := ["_law_dune_here", "_law_cuts", "_law_fills", "_law_words_here"]) (fun _ _ _ _ _ _ us hl => match us, hl with | [_, _, _, _], _ => rfl), f__law_clash := _, fd__law_clash := _, F__law_clash := fun_mk (st := s__law_clash) l36 c36 k36, m__law_clash := PySem.W.mg_of X G a36, b__law_clash := (fun_mk (st := s__law_clash) l36 c36 k36).binds (ps := ["_law_orders_here", "_law_words_here"]) (fun _ _ _ _ _ _ us hl => match us, hl with | [_, _], _ => rfl), f__law_right := _, fd__law_right := _, F__law_right := fun_mk (st := s__law_right) l37 c37 k37, m__law_right := PySem.W.mg_of X G a37, b__law_right := (fun_mk (st := s__law_right) l37 c37 k37).binds (ps := ["_law_box_here"]) (fun _ _ _ _ _ _ us hl => match us, hl with | [_], _ => rfl), f_law := _, fd_law := _, F_law := fun_mk (st := s_law) l38 c38 k38, m_law := PySem.W.mg_of X G a38, b_law := (fun_mk (st := s_law) l38 c38 k38).binds (ps := ["_law_script"]) (fun _ _ _ _ _ _ us hl => match us, hl with | [_], _ => rfl), C_Against := xC0, x_Against := ⟨⟨xq0, xN0, xbs0, xsn0, xsub0, xab0, xcol0, xdd0, xm00, xm01, xm02, xm03, xm05, by unfold xtl; rw [(xb_value "Against" (by decide +kernel))]; exact xl0⟩, xs0, xe0, xy0, xk0, ⟨xg0, xo0, xc0, xh, xt⟩, xa0, xf0, PySem.W.mg_of X G xa0⟩, C_Clash := xC1, x_Clash := ⟨⟨xq1, xN1, xbs1, xsn1, xsub1, xab1, xcol1, xdd1, xm10, xm11, xm12, xm13, xm15, by unfold xtl; rw [(xb_value "Clash" (by decide +kernel))]; exact xl1⟩, xs1, xe1, xy1, xk1, ⟨xg1, xo1, xc1, xh, xt⟩, xa1, xf1, PySem.W.mg_of X G xa1⟩, fI_Clash := _, fdI_Clash := _, iC_Clash := xi1, tI_Clash := xw1, FI_Clash := fun_mk (st := si_Clash) xj1 xr1 xz1, bI_Clash := (fun_mk (st := si_Clash) xj1 xr1 xz1).binds (ps := ["self", "places"]) (fun _ _ _ _ _ _ us hl => match us, hl with | [_, _], _ => rfl), vI_Clash := xv1, C_Unlike := xC2, x_Unlike := ⟨⟨xq2, xN2, xbs2, xsn2, xsub2, xab2, xcol2, xdd2, xm20, xm21, xm22, xm23, xm25, by unfold xtl; rw [(xb_value "Unlike" (by decide +kernel))]; exact xl2⟩, xs2, xe2, xy2, xk2, ⟨xg2, xo2, xc2, xh, xt⟩, xa2, xf2, PySem.W.mg_of X G xa2⟩, z_ValueError := PySem.W.mg_none_of X G z0, z_abs := PySem.W.mg_none_of X G z1, z_all := PySem.W.mg_none_of X G z2, z_any := PySem.W.mg_none_of X G z3, z_bool := PySem.W.mg_none_of X G z4, z_enumerate := PySem.W.mg_none_of X G z5, z_int := PySem.W.mg_none_of X G z6, z_isinstance := PySem.W.mg_none_of X G z7, z_len := PySem.W.mg_none_of X G z8, z_list := PySem.W.mg_none_of X G z9, z_max := PySem.W.mg_none_of X G z10, z_min := PySem.W.mg_none_of X G z11, z_range := PySem.W.mg_none_of X G z12, z_str := PySem.W.mg_none_of X G z13, z_tuple := PySem.W.mg_none_of X G z14, z_zip := PySem.W.mg_none_of X G z15 }⟩
theorem law_sp (K : PySem.W.Frag) (H : Hp) (a : Addr) (ns : List Int) (hl : ns.length ≤ 63) (_ : Only H) (hS : SqL K H a (ns.map V.int)) : spA K 1 g_law [.ref a] H (fun v _ => v = .bl true) fun _ _ _ => False := by
  refine ⟨H, [.scr ns], fun c => c = .val (.bl true), rfl, .refl H, .cons (.scr hS) .nil, ⟨ns, rfl, hl, rfl⟩, fun v c F' H' u S e => ?_⟩
  subst e
  obtain ⟨v', h1, h2⟩ := S.val 0 (.bl true) rfl
  cases h1
  exact h2.blInv
end Pl
open PySem PySem.W PyProof.Rows
set_option maxHeartbeats 0 in
theorem PySem.Challenge.cw_dunebooks_k43_words_that_are_enough_holds : PySem.Challenge.rw_dunebooks_k43_words_that_are_enough.Holds := by
  w_on; o_law; k_head; (case hw => w_witness2)
  k_fill
  refine L2.walk_ofK (l := PySem.Challenge.rw_dunebooks_k43_words_that_are_enough) (n := 63) (k := 20) (x := "_law_script") (CX := L2.CX0) (sp := fun K => Pl.spA K 1 Pl.g_law) rfl (by decide) rfl ⟨rfl, by decide, by decide⟩ (fun w h Y => PySem.W.kIn_of Y) ?F Pl.law_sp (fun _ _ _ _ h => h)
  case F =>
    intro w mg fa h KX G hmg
    refine' Pl.all_mk KX G hmg ?a0 ?l0 ?c0 ?k0 ?a1 ?l1 ?c1 ?k1 ?a2 ?l2 ?c2 ?k2 ?a3 ?l3 ?c3 ?k3 ?a4 ?l4 ?c4 ?k4 ?a5 ?l5 ?c5 ?k5 ?a6 ?l6 ?c6 ?k6 ?a7 ?l7 ?c7 ?k7 ?a8 ?l8 ?c8 ?k8 ?a9 ?l9 ?c9 ?k9 ?a10 ?l10 ?c10 ?k10 ?a11 ?l11 ?c11 ?k11 ?a12 ?l12 ?c12 ?k12 ?a13 ?l13 ?c13 ?k13 ?a14 ?l14 ?c14 ?k14 ?a15 ?l15 ?c15 ?k15 ?a16 ?l16 ?c16 ?k16 ?a17 ?l17 ?c17 ?k17 ?a18 ?l18 ?c18 ?k18 ?a19 ?l19 ?c19 ?k19 ?a20 ?l20 ?c20 ?k20 ?a21 ?l21 ?c21 ?k21 ?a22 ?l22 ?c22 ?k22 ?a23 ?l23 ?c23 ?k23 ?a24 ?l24 ?c24 ?k24 ?a25 ?l25 ?c25 ?k25 ?a26 ?l26 ?c26 ?k26 ?a27 ?l27 ?c27 ?k27 ?a28 ?l28 ?c28 ?k28 ?a29 ?l29 ?c29 ?k29 ?a30 ?l30 ?c30 ?k30 ?a31 ?l31 ?c31 ?k31 ?a32 ?l32 ?c32 ?k32 ?a33 ?l33 ?c33 ?k33 ?a34 ?l34 ?c34 ?k34 ?a35 ?l35 ?c35 ?k35 ?a36 ?l36 ?c36 ?k36 ?a37 ?l37 ?c37 ?k37 ?a38 ?l38 ?c38 ?k38 ?xh ?xt ?xa0 ?xl0 ?xs0 ?xg0 ?xo0 ?xc0 ?xf0 ?xk0 ?xe0 ?xy0 ?xa1 ?xl1 ?xs1 ?xg1 ?xo1 ?xc1 ?xf1 ?xk1 ?xe1 ?xy1 ?xi1 ?xw1 ?xj1 ?xr1 ?xz1 ?xv1 ?xa2 ?xl2 ?xs2 ?xg2 ?xo2 ?xc2 ?xf2 ?xk2 ?xe2 ?xy2 ?z0 ?z1 ?z2 ?z3 ?z4 ?z5 ?z6 ?z7 ?z8 ?z9 ?z10 ?z11 ?z12 ?z13 ?z14 ?z15
    (case a0 => k_is); (case l0 => k_is); (case c0 => k_is); (case k0 => k_is); (case a1 => k_is); (case l1 => k_is); (case c1 => k_is); (case k1 => k_is); (case a2 => k_is); (case l2 => k_is); (case c2 => k_is); (case k2 => k_is); (case a3 => k_is); (case l3 => k_is); (case c3 => k_is); (case k3 => k_is); (case a4 => k_is); (case l4 => k_is); (case c4 => k_is); (case k4 => k_is); (case a5 => k_is); (case l5 => k_is); (case c5 => k_is); (case k5 => k_is); (case a6 => k_is); (case l6 => k_is); (case c6 => k_is); (case k6 => k_is); (case a7 => k_is); (case l7 => k_is); (case c7 => k_is); (case k7 => k_is); (case a8 => k_is); (case l8 => k_is); (case c8 => k_is); (case k8 => k_is); (case a9 => k_is); (case l9 => k_is); (case c9 => k_is); (case k9 => k_is); (case a10 => k_is); (case l10 => k_is); (case c10 => k_is); (case k10 => k_is); (case a11 => k_is); (case l11 => k_is); (case c11 => k_is); (case k11 => k_is); (case a12 => k_is); (case l12 => k_is); (case c12 => k_is); (case k12 => k_is); (case a13 => k_is); (case l13 => k_is); (case c13 => k_is); (case k13 => k_is); (case a14 => k_is); (case l14 => k_is); (case c14 => k_is); (case k14 => k_is); (case a15 => k_is); (case l15 => k_is); (case c15 => k_is); (case k15 => k_is); (case a16 => k_is); (case l16 => k_is); (case c16 => k_is); (case k16 => k_is); (case a17 => k_is); (case l17 => k_is); (case c17 => k_is); (case k17 => k_is); (case a18 => k_is); (case l18 => k_is); (case c18 => k_is); (case k18 => k_is); (case a19 => k_is); (case l19 => k_is); (case c19 => k_is); (case k19 => k_is); (case a20 => k_is); (case l20 => k_is); (case c20 => k_is); (case k20 => k_is); (case a21 => k_is); (case l21 => k_is); (case c21 => k_is); (case k21 => k_is); (case a22 => k_is); (case l22 => k_is); (case c22 => k_is); (case k22 => k_is); (case a23 => k_is); (case l23 => k_is); (case c23 => k_is); (case k23 => k_is); (case a24 => k_is); (case l24 => k_is); (case c24 => k_is); (case k24 => k_is); (case a25 => k_is); (case l25 => k_is); (case c25 => k_is); (case k25 => k_is); (case a26 => k_is); (case l26 => k_is); (case c26 => k_is); (case k26 => k_is); (case a27 => k_is); (case l27 => k_is); (case c27 => k_is); (case k27 => k_is); (case a28 => k_is); (case l28 => k_is); (case c28 => k_is); (case k28 => k_is); (case a29 => k_is); (case l29 => k_is); (case c29 => k_is); (case k29 => k_is); (case a30 => k_is); (case l30 => k_is); (case c30 => k_is); (case k30 => k_is); (case a31 => k_is); (case l31 => k_is); (case c31 => k_is); (case k31 => k_is); (case a32 => k_is); (case l32 => k_is); (case c32 => k_is); (case k32 => k_is); (case a33 => k_is); (case l33 => k_is); (case c33 => k_is); (case k33 => k_is); (case a34 => k_is); (case l34 => k_is); (case c34 => k_is); (case k34 => k_is); (case a35 => k_is); (case l35 => k_is); (case c35 => k_is); (case k35 => k_is); (case a36 => k_is); (case l36 => k_is); (case c36 => k_is); (case k36 => k_is); (case a37 => k_is); (case l37 => k_is); (case c37 => k_is); (case k37 => k_is); (case a38 => k_is); (case l38 => k_is); (case c38 => k_is); (case k38 => k_is); (case xh => k_is); (case xt => k_is); (case xa0 => k_is); (case xl0 => k_is); (case xs0 => k_is); (case xg0 => k_is); (case xo0 => k_is); (case xc0 => k_is); (case xf0 => k_is); (case xk0 => k_is); (case xe0 => k_is); (case xy0 => k_is); (case xa1 => k_is); (case xl1 => k_is); (case xs1 => k_is); (case xg1 => k_is); (case xo1 => k_is); (case xc1 => k_is); (case xf1 => k_is); (case xk1 => k_is); (case xe1 => k_is); (case xy1 => k_is); (case xi1 => k_is); (case xw1 => k_is); (case xj1 => k_is); (case xr1 => k_is); (case xz1 => k_is); (case xv1 => k_is); (case xa2 => k_is); (case xl2 => k_is); (case xs2 => k_is); (case xg2 => k_is); (case xo2 => k_is); (case xc2 => k_is); (case xf2 => k_is); (case xk2 => k_is); (case xe2 => k_is); (case xy2 => k_is); (case z0 => k_is); (case z1 => k_is); (case z2 => k_is); (case z3 => k_is); (case z4 => k_is); (case z5 => k_is); (case z6 => k_is); (case z7 => k_is); (case z8 => k_is); (case z9 => k_is); (case z10 => k_is); (case z11 => k_is); (case z12 => k_is); (case z13 => k_is); (case z14 => k_is); (case z15 => k_is)
