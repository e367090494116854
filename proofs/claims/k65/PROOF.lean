import PyProof.Rows.All
import Wide.All
import OpenK.AllK
import Wide.FinOn
import HandS.ExcInit
import KE.KExcInit
import KE.KExcIs
import HandS.ForMost
import HandS.Wide
import HandS.Zip
import HandS.Style
import HandS.IsInst
import HandS.Walk
import HandS.TupAny
import HandS.Defaults
import KE.DataMinMax
import KE.GoesNew
import HandS.NoneIn
import HandS.Deep
import HandS.More
import HandS.TupMul
import HandS.Conv
import KE.KTupSum
import HandS.Text
import HandS.Iter
import HandS.RevRange
import KE.GoesMore
import PyProof.StrBlock2
import HandS.Star
import PyProof.P3In
import KE.IntTextLaws
import HandS.CallSlots
import HandS.WordsExc
import HandS.ExcOwn
import KE.GoesRaise
import HandS.Dict
import HandS.Ends
import PySem.Challenge.RW_dunebooks_k65_texts_of_dunes_and_almanac
set_option Elab.async false
set_option linter.all false
set_option maxRecDepth 100000
namespace PySem
namespace OEY
open PySem.W PySem.Calls PyProof.Rows PySem.HandSPX
open Builtin Builtin.ObjectAttr
structure Over (B newId initId : String) (tl : List Value) : Prop where
  facts : ExcBaseFacts B newId initId tl
  past : ∀ self, refuseLoop self "__setattr__" tl = pure ()
  obj : tl.contains (.type "object") = true
  kind : typeOf (.type B) = pure (.type "type")
  boot : bootBuiltins (Str.ofString B) = some (.type B)
  solid : Manifest.isStub B = false
  given : handedIn (.builtin initId) = true
theorem over_value : Over "ValueError" "ValueError.__new__" "ValueError.__init__" [.type "ValueError", .type "Exception", .type "BaseException", .type "object"] :=
  ⟨F.excBase_ValueError, F.store_ValueError.passes, by decide +kernel, by kernel_rfl, by decide +kernel, by decide +kernel, by decide +kernel⟩
theorem over_lookup : Over "LookupError" "LookupError.__new__" "LookupError.__init__" [.type "LookupError", .type "Exception", .type "BaseException", .type "object"] :=
  ⟨F.excBase_LookupError, F.store_LookupError.passes, by decide +kernel, by kernel_rfl, by decide +kernel, by decide +kernel, by decide +kernel⟩
theorem over_overflow : Over "OverflowError" "OverflowError.__new__" "OverflowError.__init__" [.type "OverflowError", .type "ArithmeticError", .type "Exception", .type "BaseException", .type "object"] :=
  ⟨F.excBase_OverflowError, F.store_OverflowError.passes, by decide +kernel, by kernel_rfl, by decide +kernel, by decide +kernel, by decide +kernel⟩
section
variable {prog : Program} {w : World} {A : Around} {R : Result → Shared → Prop} {hp : Heap} {g : Array GenState} {d : Drawn} {t : Nat} {os : OsState}
theorem first_field {K : W.Frag} {field : Str} {tk : Tok} {y : Value} {x C : Addr} {row : Array Value} {cd : ClassData} {tl : List Value} (KI : K.In hp) (there : hp.get? x = some { cls := .ref C, data := .fields row }) (hcd : W.clsIn K C = some cd)
    (past : ∀ self, refuseLoop self "__setattr__" tl = pure ()) (obj : tl.contains (.type "object") = true) (hm : cd.mro = .ref C :: tl) (hh : cd.hasDict = true) (ha : W.findIn K (.ref C) field = some none)
    (fin : ∀ h' tk' dx, (∀ b o, b ≠ x → hp.get? b = some o → h'.get? b = some o) → hp.objs.size ≤ dx → dx ≠ x → h'.get? x = some { cls := .ref C, dict := some dx, data := .fields row } →
      h'.Ns1 dx (fun z => if z = field then some y else none) → R (.ok (.ret .none)) ⟨h', g, d, tk', os⟩) :
    codeAny (model prog w) A (.call (.builtin "object.__setattr__") ⟨[.ref x, .str field tk, y], []⟩) R ⟨hp, g, d, t, os⟩ := by
  have J : W.InstAt hp x { cls := .ref C, data := .fields row } C none := ⟨there, rfl, rfl, trivial⟩
  have far : x ≠ hp.objs.size := Nat.ne_of_lt (Heap.lt_size there)
  have hob : cd.mro.contains (.type "object") = true := by rw [hm, List.contains_cons, obj, Bool.or_true]
  have hne : cd.mro.isEmpty = false := by rw [hm]; rfl
  have isO : W.Looks (model prog w) hp (isInstance (.ref x) (.type "object")) true := J.type.andThen (W.looks_mroIn KI (by unfold W.mroIn; rw [hcd, Option.bind_some, if_neg (by rw [hne]; decide), hob]))
  refine codeAny_call_builtin F.store_object.slot.plain F.store_object.entry (@W.check_slot (model prog w) _ _ ⟨hp, g, d, t, os⟩ "object.__setattr__" "object" "__setattr__" (.ref x) [.str field tk, y] [] _ F.store_object.kind F.store_object.split isO (F.store_object.args (.ref x) (.str field tk) y) ?_)
  have lm : W.Looks (model prog w) hp (mroOf (.ref C)) cd.mro := (W.looks_clsIn KI hcd).andThen .now
  have ls : W.Looks (model prog w) hp (storeTaker? none) none := .now
  have lc : W.Looks (model prog w) hp (classData C) cd := W.looks_clsIn KI hcd
  have go : refuseLoop (.ref x) "__setattr__" cd.mro = pure () := by rw [hm, refuseLoop_ref]; exact past _
  rw [W.osa_eq, refuse_eq]
  refine wpAny_bind (wpAny_bind (J.type.at (wpAny_bind (lm.at ?_))))
  rw [go]
  refine wpAny_pure (wpAny_bind (J.type.at (wpAny_bind ((W.looks_findIn KI ha).at (wpAny_bind (ls.at ?_))))))
  show wpAny _ _ (storeInOwnDict (.ref x) (.ref C) (.str field tk) field y false) _ _ _
  obtain ⟨nm, bs, mro, ns, qn, hd, sn, sb, ab, col, del⟩ := cd
  dsimp only at hh
  subst hh
  unfold storeInOwnDict ownDictForStores
  repeat (first | with_reducible refine store_in_new ?_ ?_ | with_reducible refine wpAny_loadPart_at there ?_ | with_reducible refine lc.at ?_ | wp_step)
  · exact ⟨_, #[], _, (Heap.get?_update_ne _ _ _ _ far.symm).trans (Heap.get?_push_at rfl rfl), rfl, fun e he => absurd he (by simp), fun _ => rfl⟩
  · intro h' tk' hn' hs
    have pushed : (hp.push { cls := .type "dict", data := .dict #[] }).get? x = some { cls := .ref C, data := .fields row } := Heap.get?_push_of_some _ there
    refine fin h' tk' hp.objs.size (fun b o hb ho => ?_) (Nat.le_refl _) far.symm ?_ hn'
    · exact (hs.2 b (Nat.ne_of_lt (Heap.lt_size ho))).trans ((Heap.get?_update_ne _ _ _ _ hb).trans (Heap.get?_push_of_some _ ho))
    · exact (hs.2 x far).trans (Heap.get?_update_self _ pushed rfl)
end
end OEY
end PySem
namespace L2
open PySem PySem.Spec PyProof.Rows
structure OwnX (K : PySem.W.Frag) (C : Addr) (newId : String) (tl : List Value) : Prop where
  cls : ∃ nm q N bs sn sub ab col dd k0 k1 k2 k3 k5, K.lookup C = some (excClassObj nm q C N bs tl true sn sub ab col dd k0 k1 k2 k3 k5 newId)
  sa : PySem.W.findIn K (.ref C) "__setattr__" = some (some (.builtin "object.__setattr__"))
  exC : PySem.W.subIn K (.ref C) (.type "BaseException") = some true
  tyC : PySem.W.typeIn K (.ref C) = some (.type "type")
  kC : PySem.W.keepIn K (.ref C) = true
section
variable {X : Cx} {pins : List (Addr × Obj)} {σ : St} {H : Hp} {s : Shared} {a C dx : Addr} {f : Str} {y : V} {u : Value} {fs : List (Str × V)} {E : Value → Shared → Prop} {A : Around} {B newId initId : String} {tl : List Value}
theorem oy_store {Q : Unit → Shared → Prop} (O : PySem.OEY.Over B newId initId tl) (T : OwnX X.K C newId tl) (I : Inv X pins σ H s) (e : H a = some (exo a C none)) (hno : PySem.W.findIn X.K (.ref C) f = some none) (ry : RelV y u)
    (fin : ∀ dx s', H dx = none → dx ≠ a → Inv X pins σ (upd (upd H dx (exd dx [(f, y)])) a (exo a C (some dx))) s' → Q () s') : wpAny (model X.prog X.w) A (setAttr (.ref a) f u) Q E s := by
  obtain ⟨nm, q, N, bs, sn, sub, ab, col, dd, k0, k1, k2, k3, k5, hC⟩ := T.cls
  have known : PySem.W.clsIn X.K C = some { name := nm, bases := bs, mro := .ref C :: tl, ns := N, qualname := q, hasDict := true, slotNames := sn, subclasses := sub, abstract := ab, collection := col, hasDel := false } := by unfold PySem.W.clsIn; rw [hC] <;> rfl
  obtain ⟨t1, ho⟩ := exo_at I.hok e
  obtain ⟨hp, g, d, t, os⟩ := s
  refine PySem.W.set_plain I.kIn (ox := { cls := .ref C, dict := none, data := .fields #[.ref t1, .none, .none, .none, .bool false, .none] }) (od := none) ⟨ho, rfl, rfl, trivial⟩ T.sa ?_
  refine PySem.OEY.first_field I.kIn ho known O.past O.obj rfl rfl hno (fun h' tk' dx k dn dne hx hn => ?_)
  have free : H dx = none := I.hok.fresh dn
  have nd : ∀ {b : Addr} {o : Obj}, hp.get? b = some o → b ≠ dx := fun {b o} q => Nat.ne_of_lt (Nat.lt_of_lt_of_le (Heap.lt_size q) dn)
  have na : ∀ {b : Addr}, H b = none → b ≠ a := fun {b} n z => by rw [z, e] at n; cases n
  have Un1 : Un X.fs [] H (upd (upd H dx (exd dx [(f, y)])) a (exo a C (some dx))) hp h' := ⟨fun b o q n _ _ => k b o (na n) q, fun b o q n _ _ => ⟨o.slots, k b o (na n) q⟩, fun b o q n _ => by rw [upd_ne (na n), upd_ne (nd q)]; exact n, fun b o q _ => by
      by_cases hb : b = a
      · exact ⟨_, by rw [hb]; exact hx⟩
      · exact ⟨o, k b o hb q⟩, fun b xs q => by rw [upd_ne (at_ne e q exo_tup), upd_ne (ne_of_none q free)]; exact q, fun b o v q => by rw [upd_ne (at_ne e q exo_frz), upd_ne (ne_of_none q free)]; exact q,
      fun b ps q => ⟨#[], by rw [upd_ne (at_ne e q exo_tbl), upd_ne (ne_of_none q free), q]; simp⟩⟩
  refine fin dx _ free dne (I.un (t' := tk') Un1 fun b o q => ?_)
  by_cases hb : b = a
  · subst hb; rw [upd_same] at q; cases q; exact exo_ok hx
  · rw [upd_ne hb] at q
    by_cases hd : b = dx
    · subst hd; rw [upd_same] at q; cases q
      exact exd_ok hn (relO_put (fs := []) ry fun g => True.intro)
    · rw [upd_ne hd] at q
      refine (I.hok b o q).stay (fun c v hc z => k c v ?_ z) (fun c hc => ?_) fun c xs hc => ?_
      · rcases hc with hc | hc
        · rw [hc]; exact hb
        · exact at_ne e hc exo_own
      · rw [upd_ne (at_ne e hc exo_own), upd_ne (ne_of_none hc free)]; exact hc
      · rw [upd_ne (at_ne e hc exo_tup), upd_ne (ne_of_none hc free)]; exact hc
theorem oy_init {us : List Value} {Q : Value → Shared → Prop} (O : PySem.OEY.Over B newId initId tl) (T : OwnX X.K C newId tl) (I : Inv X pins σ H s) (e : H a = some (exo a C none)) (hl : us.length ≤ sizeLine) (fin : ∀ s', Inv X pins σ H s' → Q .none s') :
    wpAny (model X.prog X.w) A (call (.builtin initId) (.ref a :: us)) Q E s := by
  obtain ⟨nm, q, N, bs, sn, sub, ab, col, dd, k0, k1, k2, k3, k5, hC⟩ := T.cls
  obtain ⟨t1, ho⟩ := exo_at I.hok e
  obtain ⟨hp, g, d, t, os⟩ := s
  refine wpAny_call (PySem.HandSPX.init_base O.facts (fun _ => rfl) (I.kIn _ _ hC) ho hl fun h' t2 k hx => ?_)
  have J := I.write (t' := t) (x := a) (e := a) (o := exo a C none) (by rw [e]; exact True.intro) (.inl rfl) k ⟨_, hx⟩ (exo_ok hx)
  have same : upd H a (exo a C none) = H := funext fun b => by
    by_cases hb : b = a
    · rw [hb, upd_same, e]
    · rw [upd_ne hb]
  rw [same] at J
  exact fin _ J
end
def tOyI (K : PySem.W.Frag) (newId : String) (tl : List Value) (ta : TA) : TE := fun σ H Q => ta σ H fun vs H1 => ∃ (a C : Addr) (ws : List V), vs = .ref a :: ws ∧ ws.length ≤ 1000 ∧ OwnX K C newId tl ∧ H1 a = some (exo a C none) ∧ Q .non H1
def tOyS (K : PySem.W.Frag) (newId : String) (tl : List Value) (f : Str) (to te : TE) : TS := fun D σ H => te σ H fun y H1 => to σ H1 fun x H2 => ∃ a C : Addr, x = .ref a ∧ OwnX K C newId tl ∧ PySem.W.findIn K (.ref C) f = some none ∧
  H2 a = some (exo a C none) ∧ ∀ dx, H2 dx = none → dx ≠ a → D.nx σ (upd (upd H2 dx (exd dx [(f, y)])) a (exo a C (some dx)))
section
variable {X : Cx} {o e : Expr} {es : List Expr} {to te : TE} {ta : TA} {f : Str} {p p' p1 p2 pos : Pos} {B newId initId : String} {tl : List Value}
theorem pe_oyinit {pl : Sem Bool} (O : PySem.OEY.Over B newId initId tl) (hg : Gl X (Str.ofString B)) (hm : X.mg (Str.ofString B) = none) (vV : PySem.W.findCls X.K (.type B) (.type "type") "__init__" = some (.val (.builtin initId))) (ha : PA X (e :: es) ta)
    (hn : Str.ofString B ≠ "__name__" := by decide) (hdb : (Str.ofString B == ("__debug__" : Str)) = false := by decide)
    (hc : eval (.Call (.Attribute (.Name (Str.ofString B) p1) "__init__" p2) (e :: es) [] pos) X.env = (do
      let ov ← eval (.Name (Str.ofString B) p1) X.env
      standAt p2.atName
      let (f, first) ← holding [ov] (getMethod ov "__init__" pl)
      callWith pos f first (backTo pos (starEach (e :: es) X.env)) (backToKw pos (keywordEach [] X.env))) := by rfl)
    (he : starEach (e :: es) X.env = (false, eval e X.env) :: starEach es X.env := by rfl) (hpl : (backTo pos (starEach es X.env)).any (·.1) = false := by rfl) :
    PE X (.Call (.Attribute (.Name (Str.ofString B) p1) "__init__" p2) (e :: es) [] pos) (tOyI X.K newId tl ta) := by
  refine ⟨fun pins s σ H Q I h => PySem.W.methodCall_KW (ld_blt I hg hm O.boot ?_ hn hdb) hc⟩
  obtain ⟨m, fr⟩ := I.fr
  refine PySem.W.method_type fr I.ok.mod.kin O.kind O.solid vV O.given ?_
  show wpAny _ _ (callWith pos (Value.builtin initId) [] (backTo pos (starEach (e :: es) X.env)) []) _ _ _
  refine PyProof.Rows.callWith_method1 (thn (ha.run pos pins _ σ H _ (I.tok _) h) fun us s1 ⟨vs, H1, I1, r1, a, C, ws, ev, hl, T, ea, q⟩ => ?_) he hpl
  subst ev
  match us, r1 with
  | _ :: ur, .cons ra rw' =>
    cases ra
    exact oy_init O T I1 ea (by rw [← Paired.length rw', sizeLine_eq]; omega) fun s' J => ⟨.non, H1, J, rfl, q⟩
theorem ps_oyst (O : PySem.OEY.Over B newId initId tl) (ho : PE X o to) (he : PE X e te) (hs : swapsWith e (some (.Attribute o f p')) pos.line X.env = pure false := by rfl) : PS X (.Assign [.Attribute o f p'] e pos) (tOyS X.K newId tl f to te) :=
  ⟨fun pins s σ H D I h => plainObj_wpAny_Assign_Attribute (thn (he.run pins s σ H _ I h) fun v s1 ⟨y, H1, I1, r1, q1⟩ => thn (ho.run pins s1 σ H1 _ I1 q1) fun u s2 ⟨x, H2, I2, r2, a, C, ex, T, hno, ea, q⟩ => by
    subst ex
    cases r2
    exact oy_store O T I2 ea hno r1 fun dx s' n ne J => ⟨σ, _, J, q dx n ne⟩) hs⟩
theorem pmk_oy {CX : CXT} {x : Str} {C fI : Addr} {k : Nat} {fd : FuncData} {ps : List Str} {sp : Sp} {ds : List Value} {dvs : List V} (O : PySem.OEY.Over B newId initId tl) (T : OwnX X.K C newId tl) (iC : PySem.W.findIn X.K (.ref C) "__init__" = some (some (.ref fI))) (tI : PySem.W.typeIn X.K (.ref fI) = some (.type "function"))
    (F1 : FnOk X.prog X.w X.K X.mg X.base CX k fI fd ps sp) (hr : Room (k + 1) X.A) (hb : Binds X.K fd ps ds) (hd : Vals dvs ds) (hx : Passes CX X (fun _ _ _ => False)) (hg : Gl X x) (hm : X.mg x = some (.ref C)) (ha : PA X (e :: es) ta)
    (hdb : (x == ("__debug__" : Str)) = false := by decide) (he : starEach (e :: es) X.env = (false, eval e X.env) :: starEach es X.env := by rfl) (hpl : (backTo pos (starEach es X.env)).any (·.1) = false := by rfl) :
    PMk X (.Call (.Name x p) (e :: es) [] pos) (tMkO C sp dvs ta) := by
  intro pins s σ H Q I h
  obtain ⟨nm, q, N, bs, sn, sub, ab, col, dd, k0, k1, k2, k3, k5, hC⟩ := T.cls
  refine wpAny_Call_Name_kw (ld_glob I hg hm ?_ hdb)
  refine PySem.W.callWith_K (h₀ := X.base) I.ok.mod.kin T.kC (thn (ha.run pos pins s σ H _ I h) fun us s1 ⟨vs, H1, I1, r1, hz, q1⟩ => ⟨I1.kIn, ?_⟩) he hpl
  show wpAny _ _ (call (.ref C) us) _ _ _
  obtain ⟨hp, g, dr, tk, os⟩ := s1
  have up : hp.objs.size ≤ hp.objs.size + 1 := Nat.le_succ _
  have hn : H1 (hp.objs.size + 1) = none := I1.hok.fresh up
  have hq := q1 (hp.objs.size + 1) hn
  have kk : ∀ b o, hp.get? b = some o → ((hp.push (PySem.W.kdv_tup us)).push (PySem.HandSPX.excO C hp.objs.size)).get? b = some o := fun b o e => Heap.get?_push_of_some _ (Heap.get?_push_of_some _ e)
  have laid : ((hp.push (PySem.W.kdv_tup us)).push (PySem.HandSPX.excO C hp.objs.size)).get? (hp.objs.size + 1) = some (PySem.HandSPX.excO C hp.objs.size) := by heap_get
  have I2 : Inv X pins σ (upd H1 (hp.objs.size + 1) (exo (hp.objs.size + 1) C none)) ⟨(hp.push (PySem.W.kdv_tup us)).push (PySem.HandSPX.excO C hp.objs.size), g, dr, tk, os⟩ :=
    I1.laid (t' := tk) (a := hp.objs.size + 1) (o := exo (hp.objs.size + 1) C none) (h' := (hp.push (PySem.W.kdv_tup us)).push (PySem.HandSPX.excO C hp.objs.size)) kk up (exo_ok laid)
  have r2 : Vals (V.ref (hp.objs.size + 1) :: (vs ++ dvs)) (Value.ref (hp.objs.size + 1) :: (us ++ ds)) := .cons rfl (r1.append hd)
  have hl : (Value.ref (hp.objs.size + 1) :: us ++ ds).length = ps.length := r2.length.symm.trans (F1.len _ _ _ _ hq)
  have hus : us.length ≤ sizeLine := by rw [← Paired.length r1, sizeLine_eq]; omega
  refine wpAny_call (PySem.HandSPX.call_own O.facts (fun _ => rfl) (I1.kIn _ _ hC) (PySem.W.looks_findIn I1.kIn iC) (fun self => PySem.W.bind_fn I1.kIn self tI) hus
    (codeAny_mono (F1.run _ X.stack _ _ ⟨Value.ref (hp.objs.size + 1) :: us, []⟩ (Value.ref (hp.objs.size + 1) :: (us ++ ds)) _ _ (fun _ _ _ => False) (hr.make C us []) (I2.env0.make C us []) (hb _ (Value.ref (hp.objs.size + 1) :: us) I2.kIn hl) r2 hq) fun r s' hq' => ?_))
  match r, hq' with
  | .error er, hq' => exact hx pins σ _ _ er s' I2 hq'
  | .ok (.ret u), hq' =>
    obtain ⟨v, H2, os2, bare2, un2, hok2, rv, ev, d, fs, ea, ed, hd1, q2⟩ := hq'
    subst ev
    obtain ⟨h2, g2, d2, t2, os'⟩ := s'
    exact ⟨rv, mk_end (raises_own T.exC T.tyC) I1 up kk un2 hok2 os2 bare2 ea ed hd1 q2⟩
  | .ok .next, hq' => exact hq'.elim
  | .ok .brk, hq' => exact hq'.elim
  | .ok .cont, hq' => exact hq'.elim
end
end L2
namespace L2
open PySem PySem.Spec PyProof.Rows
def exk (a C dd : Addr) : HO := .ext fun h => ∃ (oe : Obj) (vs : Array Value), h.get? a = some oe ∧ oe.cls = .ref C ∧ oe.dict = some dd ∧ oe.data = .fields vs
def xfield (c : Str) : Str :=
  if c = "Clash" then "places" else if c = "Against" then "place" else if c = "Astray" then "number" else if c = "BadText" then "at" else if c = "BadRow" then "row" else
  if c = "NoPost" then "post" else if c = "NoOrder" then "number" else if c = "NoCore" then "core" else "many"
inductive XB where
  | v | l | o
def xb (c : Str) : XB := if c ∈ (["Clash", "Against", "Unlike", "Astray", "BadText", "BadRow"] : List Str) then .v else if c = "TooMany" then .o else .l
def XB.tl : XB → List String
  | .v => ["ValueError", "Exception", "BaseException", "object"]
  | .l => ["LookupError", "Exception", "BaseException", "object"]
  | .o => ["OverflowError", "ArithmeticError", "Exception", "BaseException", "object"]
def XB.nm : XB → String
  | .v => "ValueError"
  | .l => "LookupError"
  | .o => "OverflowError"
def XB.new : XB → String
  | .v => "ValueError.__new__"
  | .l => "LookupError.__new__"
  | .o => "OverflowError.__new__"
def XB.ini : XB → String
  | .v => "ValueError.__init__"
  | .l => "LookupError.__init__"
  | .o => "OverflowError.__init__"
theorem XB.over (b : XB) : PySem.OEY.Over b.nm b.new b.ini (b.tl.map Value.type) := by
  cases b
  · exact PySem.OEY.over_value
  · exact PySem.OEY.over_lookup
  · exact PySem.OEY.over_overflow
end L2
namespace Pl
open PySem PySem.Spec PyProof.Rows L2
inductive D where
  | non | bl (b : Bool) | int (i : Int) | str (x : Str) | lst (xs : List D) | tup (xs : List D) | scr (ns : List Int) | adr (a : Addr) | exc (c : Str) (y : D)
mutual
inductive Rep (K : PySem.W.Frag) (F : Hp) : V → D → Prop
  | non : Rep K F .non .non
  | bl (b : Bool) : Rep K F (.bl b) (.bl b)
  | int (i : Int) : Rep K F (.int i) (.int i)
  | str (x : Str) : Rep K F (.str x) (.str x)
  | lst {a : Addr} {vs : List V} {ds : List D} : F a = some (.lst vs) → Reps K F vs ds → Rep K F (.ref a) (.lst ds)
  | tup {a : Addr} {vs : List V} {ds : List D} : F a = some (.tup vs) → Reps K F vs ds → Rep K F (.ref a) (.tup ds)
  | scr {a : Addr} {ns : List Int} : SqL K F a (ns.map V.int) → Rep K F (.ref a) (.scr ns)
  | adr (a : Addr) : Rep K F (.ref a) (.adr a)
  | exc {a C dd : Addr} {v : V} {c : Str} {y : D} : PySem.W.nsIn K mainGlobals c = some (some (.ref C)) → F a = some (exk a C dd) → F dd = some (.xd [(xfield c, v)]) → Rep K F v y → Rep K F (.ref a) (.exc c y)
inductive Reps (K : PySem.W.Frag) (F : Hp) : List V → List D → Prop
  | nil : Reps K F [] []
  | cons {v : V} {vs : List V} {d : D} {ds : List D} : Rep K F v d → Reps K F vs ds → Reps K F (v :: vs) (d :: ds)
end
section
variable {K : PySem.W.Frag} {F F' : Hp}
mutual
theorem Rep.mono (e : Same F F') : ∀ {v : V} {d : D}, Rep K F v d → Rep K F' v d
  | _, _, .non => .non
  | _, _, .bl b => .bl b
  | _, _, .int i => .int i
  | _, _, .str x => .str x
  | _, _, .lst h r => .lst (e _ _ h) (Reps.mono e r)
  | _, _, .tup h r => .tup (e _ _ h) (Reps.mono e r)
  | _, _, .scr h => .scr (e.seq h)
  | _, _, .adr a => .adr a
  | _, _, .exc h1 h2 h3 r => .exc h1 (e _ _ h2) (e _ _ h3) (Rep.mono e r)
theorem Reps.mono (e : Same F F') : ∀ {vs : List V} {ds : List D}, Reps K F vs ds → Reps K F' vs ds
  | _, _, .nil => .nil
  | _, _, .cons h r => .cons (Rep.mono e h) (Reps.mono e r)
end
theorem Reps.length : ∀ {vs : List V} {ds : List D}, Reps K F vs ds → vs.length = ds.length
  | _, _, .nil => rfl
  | _, _, .cons _ r => by simp [Reps.length r]
theorem Reps.get : ∀ {vs : List V} {ds : List D} {i : Nat} {d : D}, Reps K F vs ds → ds[i]? = some d → ∃ v, vs[i]? = some v ∧ Rep K F v d
  | _, _, _, _, .nil, e => by simp at e
  | _, _, 0, _, .cons r _, e => by simp at e; subst e; exact ⟨_, rfl, r⟩
  | _, _, i + 1, d, .cons _ t, e => by
    obtain ⟨u, h1, h2⟩ := Reps.get (i := i) (d := d) t (by simpa using e)
    exact ⟨u, by simpa using h1, h2⟩
theorem Reps.append : ∀ {vs ws : List V} {ds es : List D}, Reps K F vs ds → Reps K F ws es → Reps K F (vs ++ ws) (ds ++ es)
  | _, _, _, _, .nil, s => s
  | _, _, _, _, .cons r t, s => .cons r (Reps.append t s)
theorem Reps.one {v : V} {d : D} (h : Rep K F v d) : Reps K F [v] [d] := .cons h .nil
theorem Reps.set {v : V} {d : D} (r : Rep K F v d) : ∀ {vs : List V} {ds : List D} (i : Nat), Reps K F vs ds → Reps K F (vs.set i v) (ds.set i d)
  | _, _, _, .nil => .nil
  | _, _, 0, .cons _ t => .cons r t
  | _, _, i + 1, .cons q t => .cons q (Reps.set r i t)
theorem Reps.drop : ∀ {vs : List V} {ds : List D} (n : Nat), Reps K F vs ds → Reps K F (vs.drop n) (ds.drop n)
  | _, _, 0, h => h
  | _, _, _ + 1, .nil => .nil
  | _, _, n + 1, .cons _ t => Reps.drop n t
theorem Reps.take : ∀ {vs : List V} {ds : List D} (n : Nat), Reps K F vs ds → Reps K F (vs.take n) (ds.take n)
  | _, _, 0, _ => .nil
  | _, _, _ + 1, .nil => .nil
  | _, _, n + 1, .cons r t => .cons r (Reps.take n t)
theorem Reps.reverse : ∀ {vs : List V} {ds : List D}, Reps K F vs ds → Reps K F vs.reverse ds.reverse
  | _, _, .nil => .nil
  | _, _, .cons r t => by
    rw [List.reverse_cons, List.reverse_cons]
    exact (Reps.reverse t).append (.one r)
theorem Reps.ofInts : ∀ (ns : List Int), Reps K F (ns.map V.int) (ns.map D.int)
  | [] => .nil
  | n :: ns => .cons (.int n) (Reps.ofInts ns)
theorem Reps.bls : ∀ {vs : List V} {bs : List Bool}, Reps K F vs (bs.map D.bl) → vs = bs.map V.bl
  | _, [], .nil => rfl
  | _, n :: ns, .cons h t => by cases h; rw [Reps.bls t]; rfl
end
inductive Fd where
  | val (d : D) | own (a : Addr) (xs : List D)
inductive Sh where
  | dic (a : Addr) (ps : List (L2.Key × D)) | ins (a C dx : Addr) (fs : List (Str × Fd))
  | dicL (a : Addr) (o : Obj) (kvs : List (L2.Key × V)) (ps : List (L2.Key × D))
inductive Cell where
  | val (d : D) | own (a : Addr) (xs : List D) | box (s : Sh)
abbrev Ro := List (Option Cell)
def KvR (K : PySem.W.Frag) (F : Hp) : List (L2.Key × V) → List (L2.Key × D) → Prop
  | [], [] => True
  | p :: ps, q :: qs => p.1 = q.1 ∧ Rep K F p.2 q.2 ∧ KvR K F ps qs
  | _, _ => False
def Fd.foot : Fd → List Addr
  | .val _ => []
  | .own a _ => [a]
def Fd.At (K : PySem.W.Frag) (F H : Hp) (v : V) : Fd → Prop
  | .val d => Rep K F v d
  | .own a xs => v = .ref a ∧ ∃ vs, H a = some (.lst vs) ∧ Reps K F vs xs
def FsR (K : PySem.W.Frag) (F H : Hp) : List (Str × V) → List (Str × Fd) → Prop
  | [], [] => True
  | p :: ps, q :: qs => p.1 = q.1 ∧ q.2.At K F H p.2 ∧ FsR K F H ps qs
  | _, _ => False
def fsFoot (fs : List (Str × Fd)) : List Addr := fs.flatMap fun p => p.2.foot
def Sh.root : Sh → Addr
  | .dic a _ => a
  | .ins a _ _ _ => a
  | .dicL a _ _ _ => a
def Sh.foot : Sh → List Addr
  | .dic a _ => [a]
  | .ins a _ dx fs => a :: dx :: fsFoot fs
  | .dicL a _ _ _ => [a]
def Sh.At (K : PySem.W.Frag) (F H : Hp) : Sh → Prop
  | .dic a ps => ∃ kvs, H a = some (.dK kvs) ∧ KvR K F kvs ps
  | .ins a C dx fs => (fsFoot fs).Nodup ∧ ∃ vs, H a = some (.ins C dx vs) ∧ H dx = some (.own a) ∧ FsR K F H vs fs
  | .dicL a o kvs ps => H a = some (.frz o (.dK kvs)) ∧ KvR K F kvs ps
theorem KvR.mono {K : PySem.W.Frag} {F F' : Hp} (sm : Same F F') : ∀ {kvs : List (L2.Key × V)} {ps : List (L2.Key × D)}, KvR K F kvs ps → KvR K F' kvs ps
  | [], [], _ => trivial
  | _ :: _, _ :: _, h => ⟨h.1, h.2.1.mono sm, KvR.mono sm h.2.2⟩
  | [], _ :: _, h => h.elim
  | _ :: _, [], h => h.elim
theorem FsR.mono {K : PySem.W.Frag} {F F' H H' : Hp} (sm : Same F F') : ∀ {vs : List (Str × V)} {fs : List (Str × Fd)}, (∀ p ∈ fsFoot fs, H' p = H p) → FsR K F H vs fs → FsR K F' H' vs fs
  | [], [], _, _ => trivial
  | (x, v) :: vs, (y, .val d) :: fs, e, h => ⟨h.1, h.2.1.mono sm, FsR.mono sm e h.2.2⟩
  | (x, v) :: vs, (y, .own a xs) :: fs, e, h => ⟨h.1, by
    obtain ⟨h1, ws, h2, h3⟩ := h.2.1
    exact ⟨h1, ws, by rw [e a (List.mem_cons_self)]; exact h2, h3.mono sm⟩, FsR.mono sm (fun p m => e p (List.mem_cons_of_mem _ m)) h.2.2⟩
  | [], _ :: _, _, h => h.elim
  | _ :: _, [], _, h => h.elim
theorem FsR.live {K : PySem.W.Frag} {F H : Hp} : ∀ {vs : List (Str × V)} {fs : List (Str × Fd)}, FsR K F H vs fs → ∀ p ∈ fsFoot fs, ∃ o, H p = some o
  | [], [], _, p, m => by cases m
  | (x, v) :: vs, (y, .val d) :: fs, h, p, m => FsR.live h.2.2 p m
  | (x, v) :: vs, (y, .own a xs) :: fs, h, p, m => by
    have m : p ∈ a :: fsFoot fs := m
    rcases List.mem_cons.mp m with rfl | m
    · obtain ⟨h1, ws, h2, h3⟩ := h.2.1
      exact ⟨_, h2⟩
    · exact FsR.live h.2.2 p m
  | [], _ :: _, h, _, _ => h.elim
  | _ :: _, [], h, _, _ => h.elim
theorem Sh.At.mono {K : PySem.W.Frag} {F F' H H' : Hp} {s : Sh} (h : s.At K F H) (sm : Same F F') (e : ∀ p ∈ s.foot, H' p = H p) : s.At K F' H' := by
  cases s with
  | dic a ps =>
    obtain ⟨kvs, h1, h2⟩ := h
    exact ⟨kvs, by rw [e a (by simp [Sh.foot])]; exact h1, h2.mono sm⟩
  | ins a C dx fs =>
    obtain ⟨n, vs, h1, h2, h3⟩ := h
    exact ⟨n, vs, by rw [e a (by simp [Sh.foot])]; exact h1, by rw [e dx (by simp [Sh.foot])]; exact h2, h3.mono sm fun p m => e p (by simp [Sh.foot, m])⟩
  | dicL a o kvs ps => exact ⟨by rw [e a (by simp [Sh.foot])]; exact h.1, h.2.mono sm⟩
theorem Sh.At.live {K : PySem.W.Frag} {F H : Hp} {s : Sh} (h : s.At K F H) {p : Addr} (m : p ∈ s.foot) : ∃ o, H p = some o := by
  cases s with
  | dic a ps =>
    obtain ⟨kvs, h1, h2⟩ := h
    rw [List.mem_singleton.mp m]; exact ⟨_, h1⟩
  | ins a C dx fs =>
    obtain ⟨n, vs, h1, h2, h3⟩ := h
    have m : p ∈ a :: dx :: fsFoot fs := m
    rcases List.mem_cons.mp m with rfl | m
    · exact ⟨_, h1⟩
    rcases List.mem_cons.mp m with rfl | m
    · exact ⟨_, h2⟩
    · exact h3.live p m
  | dicL a o kvs ps => rw [List.mem_singleton.mp m]; exact ⟨_, h.1⟩
def InBox (ρ : Ro) (p : Addr) : Prop := ∃ (i : Nat) (s : Sh), ρ[i]? = some (some (.box s)) ∧ p ∈ s.foot
structure BxOk (K : PySem.W.Frag) (F G H : Hp) (σ : L2.St) (ρ : Ro) : Prop where
  box : ∀ (i : Nat) (s : Sh), ρ[i]? = some (some (.box s)) → σ[i]? = some (some (.ref s.root)) ∧ (∀ p ∈ s.foot, F p = none ∧ G p = none) ∧ s.At K F H
  bb : ∀ (i j : Nat) (s t : Sh) (p : Addr), ρ[i]? = some (some (.box s)) → ρ[j]? = some (some (.box t)) → p ∈ s.foot → p ∈ t.foot → i = j
  bo : ∀ (j : Nat) (a : Addr) (xs : List D), ρ[j]? = some (some (.own a xs)) → ¬ InBox ρ a
section
variable {K : PySem.W.Frag} {F F' G G' H H' : Hp} {σ σ' : L2.St} {ρ ρ' : Ro}
theorem BxOk.to (B : BxOk K F G H σ ρ) (hs : Same F F') (hp : ∀ p, InBox ρ p → F' p = none ∧ G' p = none ∧ H' p = H p) (hb : ∀ (i : Nat) (s : Sh), ρ'[i]? = some (some (.box s)) → ρ[i]? = some (some (.box s)) ∧ σ'[i]? = σ[i]?)
    (ho : ∀ (j : Nat) (a : Addr) (xs : List D), ρ'[j]? = some (some (.own a xs)) → (∃ (k : Nat) (ys : List D), ρ[k]? = some (some (.own a ys))) ∨ ¬ InBox ρ a) : BxOk K F' G' H' σ' ρ' := by
  refine ⟨fun i s q => ?_, fun i j s t p q1 q2 m1 m2 => B.bb i j s t p (hb i s q1).1 (hb j t q2).1 m1 m2, fun j a xs q m => ?_⟩
  · obtain ⟨h1, h2⟩ := hb i s q
    obtain ⟨g1, g2, g3⟩ := B.box i s h1
    exact ⟨h2.trans g1, fun p m => ⟨(hp p ⟨i, s, h1, m⟩).1, (hp p ⟨i, s, h1, m⟩).2.1⟩, g3.mono hs fun p m => (hp p ⟨i, s, h1, m⟩).2.2⟩
  · have n : ¬ InBox ρ a := (ho j a xs q).elim (fun ⟨k, ys, e⟩ => B.bo k a ys e) id
    obtain ⟨i, s, h1, h2⟩ := m
    exact n ⟨i, s, (hb i s h1).1, h2⟩
theorem BxOk.free (B : BxOk K F G H σ ρ) {p : Addr} (m : InBox ρ p) : F p = none ∧ G p = none ∧ ∃ o, H p = some o := by
  obtain ⟨i, s, h1, h2⟩ := m
  obtain ⟨g1, g2, g3⟩ := B.box i s h1
  exact ⟨(g2 p h2).1, (g2 p h2).2, g3.live h2⟩
theorem BxOk.apart (B : BxOk K F G H σ ρ) {p a : Addr} {j : Nat} {xs : List D} (m : InBox ρ p) (e : ρ[j]? = some (some (.own a xs))) : p ≠ a := fun z => by
  subst z
  exact B.bo j _ xs e m
theorem BxOk.heap (B : BxOk K F G H σ ρ) (hs : Same F F') (hp : ∀ p, InBox ρ p → F' p = none ∧ G' p = none ∧ H' p = H p) : BxOk K F' G' H' σ ρ := B.to hs hp (fun i s q => ⟨q, rfl⟩) fun j a xs q => .inl ⟨j, xs, q⟩
theorem BxOk.nil (h : ∀ (i : Nat) (s : Sh), ρ[i]? ≠ some (some (.box s))) : BxOk K F G H σ ρ := ⟨fun i s q => absurd q (h i s), fun i j s t p q1 _ _ _ => absurd q1 (h i s), fun j a xs q m => by
  obtain ⟨i, s, h1, _⟩ := m
  exact h i s h1⟩
theorem BxOk.fresh (B : BxOk K F G H σ ρ) {a : Addr} (h : H a = none) : ¬ InBox ρ a := fun m => by
  obtain ⟨_, _, o, e⟩ := B.free m
  rw [h] at e; cases e
theorem BxOk.notG (B : BxOk K F G H σ ρ) {a : Addr} {o : HO} (h : G a = some o) : ¬ InBox ρ a := fun m => by
  have := (B.free m).2.1
  rw [h] at this; cases this
theorem BxOk.guard (B : BxOk K F G H σ ρ) {p : Addr} {o : HO} (h : ¬ InBox ρ p) : BxOk K F (upd G p o) H σ ρ := B.heap (.refl _) fun q m => ⟨(B.free m).1, by rw [upd_ne (a := p) (b := q) fun z => h (by rw [← z]; exact m)]; exact (B.free m).2.1, rfl⟩
theorem BxOk.upd' (B : BxOk K F G H σ ρ) {p : Addr} {o : HO} (h : ¬ InBox ρ p) : BxOk K F G (upd H p o) σ ρ := B.heap (.refl _) fun q m => ⟨(B.free m).1, (B.free m).2.1, upd_ne fun z => h (by rw [← z]; exact m)⟩
theorem BxOk.new (B : BxOk K F G H σ ρ) {p : Addr} {o : HO} (hF : F p = none) (h : H p = none) : BxOk K (upd F p o) G (upd H p o) σ ρ := B.heap (fun b x e => by rw [upd_ne (ne_of_none e hF)]; exact e) fun q m => by
  obtain ⟨f, g, o, e⟩ := B.free m
  have n : q ≠ p := ne_of_none e h
  exact ⟨by rw [upd_ne n]; exact f, g, by rw [upd_ne n]⟩
theorem BxOk.more (B : BxOk K F G H σ ρ) {p : Addr} {o : HO} (h : H p = none) : BxOk K F G (upd H p o) σ ρ := B.heap (.refl _) fun q m => by
  obtain ⟨f, g, o, e⟩ := B.free m
  have n : q ≠ p := ne_of_none e h
  exact ⟨f, g, by rw [upd_ne n]⟩
theorem set_box {i j : Nat} {c : Option Cell} {s : Sh} (hc : ∀ t, c ≠ some (.box t)) (q : (ρ.set i c)[j]? = some (some (.box s))) : ρ[j]? = some (some (.box s)) ∧ i ≠ j := by
  by_cases hj : i = j
  · subst hj
    by_cases hi : i < ρ.length
    · rw [List.getElem?_set_self hi] at q; exact absurd (Option.some.inj q) (hc s)
    · rw [List.getElem?_eq_none (by simpa using hi)] at q; cases q
  · rw [List.getElem?_set_ne hj] at q; exact ⟨q, hj⟩
theorem set_inbox {i : Nat} {c : Option Cell} {p : Addr} (hc : ∀ t, c ≠ some (.box t)) : InBox (ρ.set i c) p → InBox ρ p := fun ⟨j, s, e, m⟩ => ⟨j, s, (set_box hc e).1, m⟩
theorem set_own {i j : Nat} {c : Option Cell} {a : Addr} {xs : List D} (q : (ρ.set i c)[j]? = some (some (.own a xs))) : c = some (.own a xs) ∨ ρ[j]? = some (some (.own a xs)) := by
  by_cases hj : i = j
  · subst hj
    by_cases hi : i < ρ.length
    · rw [List.getElem?_set_self hi] at q; exact .inl (Option.some.inj q)
    · rw [List.getElem?_eq_none (by simpa using hi)] at q; cases q
  · rw [List.getElem?_set_ne hj] at q; exact .inr q
theorem BxOk.set (B : BxOk K F G H σ ρ) (i : Nat) (v : Option V) {c : Option Cell} (hc : ∀ t, c ≠ some (.box t)) (ho : ∀ a xs, c = some (.own a xs) → (∃ (k : Nat) (ys : List D), ρ[k]? = some (some (.own a ys))) ∨ ¬ InBox ρ a) : BxOk K F G H (σ.set i v) (ρ.set i c) :=
  B.to (.refl _) (fun p m => ⟨(B.free m).1, (B.free m).2.1, rfl⟩) (fun j s q => ⟨(set_box hc q).1, List.getElem?_set_ne (set_box hc q).2⟩) fun j a xs q => (set_own q).elim (ho a xs) fun q => .inl ⟨j, xs, q⟩
theorem BxOk.set' (B : BxOk K F G H σ ρ) (i : Nat) {c : Option Cell} (hc : ∀ t, c ≠ some (.box t)) (ho : ∀ a xs, c = some (.own a xs) → (∃ (k : Nat) (ys : List D), ρ[k]? = some (some (.own a ys))) ∨ ¬ InBox ρ a) : BxOk K F G H σ (ρ.set i c) :=
  B.to (.refl _) (fun p m => ⟨(B.free m).1, (B.free m).2.1, rfl⟩) (fun j s q => ⟨(set_box hc q).1, rfl⟩) fun j a xs q => (set_own q).elim (ho a xs) fun q => .inl ⟨j, xs, q⟩
end
structure Up (G F F' : Hp) : Prop where
  ex : Same F F'
  out : ∀ a o, F' a = some o → F a = some o ∨ G a = none
theorem Up.refl (G F : Hp) : Up G F F := ⟨.refl F, fun _ _ h => .inl h⟩
theorem Up.trans {G F F1 F2 : Hp} (a : Up G F F1) (b : Up G F1 F2) : Up G F F2 := ⟨a.ex.trans b.ex, fun x o h => by
  rcases b.out x o h with h | h
  · exact a.out x o h
  · exact .inr h⟩
theorem Up.isNone {G F F' : Hp} (u : Up G F F') {a : Addr} {o : HO} (hF : F a = none) (hG : G a = some o) : F' a = none := by
  cases q : F' a with
  | none => rfl
  | some x =>
    rcases u.out a x q with h | h
    · rw [hF] at h; cases h
    · rw [hG] at h; cases h
theorem Up.less {G G' F F' : Hp} (u : Up G F F') (h : Same G' G) : Up G' F F' := ⟨u.ex, fun a o e => by
  rcases u.out a o e with q | q
  · exact .inl q
  · exact .inr (h.free q)⟩
def Mut : HO → Prop
  | .lst _ => True
  | .dK _ => True
  | .ins _ _ _ => True
  | .own _ => True
  | .frz _ _ => True
  | _ => False
theorem FsR.mut {K : PySem.W.Frag} {F H : Hp} : ∀ {vs : List (Str × V)} {fs : List (Str × Fd)}, FsR K F H vs fs → ∀ p ∈ fsFoot fs, ∃ o, H p = some o ∧ Mut o
  | [], [], _, p, m => by cases m
  | (x, v) :: vs, (y, .val d) :: fs, h, p, m => FsR.mut h.2.2 p m
  | (x, v) :: vs, (y, .own a xs) :: fs, h, p, m => by
    have m : p ∈ a :: fsFoot fs := m
    rcases List.mem_cons.mp m with rfl | m
    · obtain ⟨h1, ws, h2, h3⟩ := h.2.1
      exact ⟨_, h2, trivial⟩
    · exact FsR.mut h.2.2 p m
  | [], _ :: _, h, _, _ => h.elim
  | _ :: _, [], h, _, _ => h.elim
theorem Sh.At.mut {K : PySem.W.Frag} {F H : Hp} {s : Sh} (h : s.At K F H) {p : Addr} (m : p ∈ s.foot) : ∃ o, H p = some o ∧ Mut o := by
  cases s with
  | dic a ps =>
    obtain ⟨kvs, h1, h2⟩ := h
    rw [List.mem_singleton.mp m]; exact ⟨_, h1, trivial⟩
  | ins a C dx fs =>
    obtain ⟨n, vs, h1, h2, h3⟩ := h
    have m : p ∈ a :: dx :: fsFoot fs := m
    rcases List.mem_cons.mp m with rfl | m
    · exact ⟨_, h1, trivial⟩
    rcases List.mem_cons.mp m with rfl | m
    · exact ⟨_, h2, trivial⟩
    · exact h3.mut p m
  | dicL a o kvs ps => rw [List.mem_singleton.mp m]; exact ⟨_, h.1, trivial⟩
theorem BxOk.mut {K : PySem.W.Frag} {F G H : Hp} {σ : L2.St} {ρ : Ro} (B : BxOk K F G H σ ρ) {p : Addr} (m : InBox ρ p) : ∃ o, H p = some o ∧ Mut o := by
  obtain ⟨i, s, h1, h2⟩ := m
  exact (B.box i s h1).2.2.mut h2
class TJ where
  J : Hp → Hp → Hp → Prop
  step : ∀ {G F F' H H' : Hp}, J G F H → (∀ b o, H b = some o → ¬ Mut o → H' b = some o) → (∀ b o, F' b = some o → F b = some o ∨ H b = none ∨ ∃ x, H b = some x ∧ Mut x) → J G F' H'
  frame : ∀ {G G' F H : Hp}, J G F H → (∀ b o, G' b = some o → G b = some o ∨ ∃ x, H b = some x ∧ Mut x) → J G' F H
@[reducible] def tj0 : TJ := ⟨fun _ _ _ => True, fun _ _ _ => trivial, fun _ _ => trivial⟩
@[reducible] instance (priority := low) tjNone : TJ := tj0
structure SameJ [TJ] (G F H : Hp) : Prop where
  same : Same G H
  tj : TJ.J G F H
section
variable [TJ] {G G' F F' H H' : Hp}
instance : CoeFun (SameJ G F H) (fun _ => ∀ a x, G a = some x → H a = some x) := ⟨fun h => h.same⟩
instance : CoeOut (SameJ G F H) (Same G H) := ⟨fun h => h.same⟩
theorem SameJ.step (h : SameJ G F H) (e : Same H H') (f : ∀ b o, F' b = some o → F b = some o ∨ H b = none ∨ ∃ vs, H b = some (.lst vs)) : SameJ G F' H' := ⟨h.same.trans e, TJ.step h.tj (fun b o q _ => e b o q) fun b o q => (f b o q).elim .inl fun z => z.elim (fun z => .inr (.inl z)) fun ⟨vs, z⟩ => .inr (.inr ⟨_, z, trivial⟩)⟩
theorem SameJ.trans (h : SameJ G F H) (e : Same H H') : SameJ G F H' := h.step e fun _ _ q => .inl q
theorem SameJ.up (h : SameJ G F H) (e : Same H H') (u : ∀ b o, F' b = some o → F b = some o ∨ H b = none) : SameJ G F' H' := h.step e fun b o q => (u b o q).elim .inl fun z => .inr (.inl z)
theorem SameJ.new (h : SameJ G F H) {p : Addr} {o : HO} (n : H p = none) : SameJ G (upd F p o) (upd H p o) := h.up (fun b x q => by rw [upd_ne (ne_of_none q n)]; exact q) fun b x q => by
  by_cases m : b = p
  · subst m; exact .inr n
  · rw [upd_ne m] at q; exact .inl q
theorem SameJ.froz (h : SameJ G F H) (f : ∀ b o, F' b = some o → F b = some o ∨ ∃ vs, H b = some (.lst vs)) : SameJ G F' H := h.step (.refl _) fun b o q => (f b o q).elim .inl fun z => .inr (.inr z)
theorem SameJ.free (h : SameJ G F H) {a : Addr} (n : H a = none) : G a = none := h.same.free n
theorem SameJ.less (h : SameJ G F H) (e : Same G' G) : SameJ G' F H := ⟨e.trans h.same, TJ.frame h.tj fun b o q => .inl (e b o q)⟩
theorem SameJ.mut (h : SameJ G F H) {a : Addr} {o u : HO} (n : G a = none) (e : H a = some o) (mo : Mut o := by trivial) : SameJ G F (upd H a u) :=
  ⟨fun b x q => by
    have m : b ≠ a := fun z => by subst z; rw [n] at q; cases q
    rw [upd_ne m]; exact h.same b x q, TJ.step h.tj (fun b o q ne => by
    have m : b ≠ a := fun z => by subst z; rw [e] at q; exact ne ((Option.some.inj q) ▸ mo)
    rw [upd_ne m]; exact q) fun _ _ q => .inl q⟩
theorem SameJ.guard (h : SameJ G F H) {a : Addr} {o : HO} (e : H a = some o) (mo : Mut o := by trivial) : SameJ (upd G a o) F H :=
  ⟨fun b x q => by
    by_cases m : b = a
    · subst m; rw [upd_same] at q; cases q; exact e
    · rw [upd_ne m] at q; exact h.same b x q, TJ.frame h.tj fun b u q => by
    by_cases m : b = a
    · subst m; exact .inr ⟨o, e, mo⟩
    · rw [upd_ne m] at q; exact .inl q⟩
end
structure Sim [TJ] (K : PySem.W.Frag) (G F H : Hp) (σ : L2.St) (ρ : Ro) : Prop where
  hF : Same F H
  hG : SameJ G F H
  len : σ.length = ρ.length
  val : ∀ (i : Nat) (d : D), ρ[i]? = some (some (.val d)) → ∃ v, σ[i]? = some (some v) ∧ Rep K F v d
  own : ∀ (i : Nat) (a : Addr) (xs : List D), ρ[i]? = some (some (.own a xs)) → σ[i]? = some (some (.ref a)) ∧ F a = none ∧ G a = none ∧ ∃ vs, H a = some (.lst vs) ∧ Reps K F vs xs
  ne : ∀ (i j : Nat) (a : Addr) (xs ys : List D), ρ[i]? = some (some (.own a xs)) → ρ[j]? = some (some (.own a ys)) → i = j
  bx : BxOk K F G H σ ρ
structure SimR (K : PySem.W.Frag) (G F H : Hp) (σ : L2.St) (ρ : Ro) : Prop where
  hF : Same F H
  hG : Same G H
  len : σ.length = ρ.length
  val : ∀ (i : Nat) (d : D), ρ[i]? = some (some (.val d)) → ∃ v, σ[i]? = some (some v) ∧ Rep K F v d
  own : ∀ (i : Nat) (a : Addr) (xs : List D), ρ[i]? = some (some (.own a xs)) → σ[i]? = some (some (.ref a)) ∧ F a = none ∧ G a = none ∧ ∃ vs, H a = some (.lst vs) ∧ Reps K F vs xs
  ne : ∀ (i j : Nat) (a : Addr) (xs ys : List D), ρ[i]? = some (some (.own a xs)) → ρ[j]? = some (some (.own a ys)) → i = j
  bx : BxOk K F G H σ ρ
theorem SameJ.rfl' (F H : Hp) : SameJ H F H := ⟨.refl H, trivial⟩
theorem SameJ.of {G F H : Hp} (h : Same G H) : SameJ G F H := ⟨h, trivial⟩
section
variable [TJ] {K : PySem.W.Frag} {G F H : Hp} {σ : L2.St} {ρ : Ro}
theorem Sim.freshF (S : Sim K G F H σ ρ) {p : Addr} (h : H p = none) : F p = none := S.hF.free h
theorem Sim.freshG (S : Sim K G F H σ ρ) {p : Addr} (h : H p = none) : G p = none := S.hG.free h
theorem same_new {H : Hp} {p : Addr} {o : HO} (h : H p = none) : Same H (upd H p o) := fun b x e => by
  rw [upd_ne (ne_of_none e h)]
  exact e
theorem Up.new {p : Addr} {o : HO} (hF : F p = none) (hG : G p = none) : Up G F (upd F p o) := ⟨same_new hF, fun a x e => by
  by_cases q : a = p
  · subst q; exact .inr hG
  · rw [upd_ne q] at e; exact .inl e⟩
theorem Sim.new (S : Sim K G F H σ ρ) {p : Addr} {o : HO} (h : H p = none) : Sim K G (upd F p o) (upd H p o) σ ρ where
  hF := fun a x e => by
    by_cases q : a = p
    · subst q; rw [upd_same] at e ⊢; exact e
    · rw [upd_ne q] at e ⊢; exact S.hF a x e
  hG := S.hG.new h
  len := S.len
  val := fun i d e => by
    obtain ⟨v, h1, h2⟩ := S.val i d e
    exact ⟨v, h1, h2.mono (same_new (S.freshF h))⟩
  own := fun i a xs e => by
    obtain ⟨h1, h2, h3, vs, h4, h5⟩ := S.own i a xs e
    have q : a ≠ p := ne_of_none h4 h
    exact ⟨h1, by rw [upd_ne q]; exact h2, h3, vs, by rw [upd_ne q]; exact h4, h5.mono (same_new (S.freshF h))⟩
  ne := S.ne
  bx := S.bx.new (S.freshF h) h
theorem Sim.upNew (S : Sim K G F H σ ρ) {p : Addr} {o : HO} (h : H p = none) : Up G F (upd F p o) := Up.new (S.freshF h) (S.freshG h)
theorem Sim.more (S : Sim K G F H σ ρ) {p : Addr} {o : HO} (h : H p = none) : Sim K G F (upd H p o) σ ρ where
  hF := S.hF.trans (same_new h)
  hG := S.hG.trans (same_new h)
  len := S.len
  val := S.val
  own := fun i a xs e => by
    obtain ⟨h1, h2, h3, vs, h4, h5⟩ := S.own i a xs e
    exact ⟨h1, h2, h3, vs, by rw [upd_ne (ne_of_none h4 h)]; exact h4, h5⟩
  ne := S.ne
  bx := S.bx.more h
theorem Sim.mut (S : Sim K G F H σ ρ) {i : Nat} {a : Addr} {xs ys : List D} {vs : List V} (e : ρ[i]? = some (some (.own a xs))) (r : Reps K F vs ys) :
    Sim K G F (upd H a (.lst vs)) σ (ρ.set i (some (.own a ys))) := by
  obtain ⟨h1, h2, h3, ws, h4, h5⟩ := S.own i a xs e
  have hi : i < ρ.length := by
    rcases Nat.lt_or_ge i ρ.length with h | h
    · exact h
    · rw [List.getElem?_eq_none h] at e; cases e
  refine ⟨fun b x q => ?_, S.hG.mut h3 h4, by simpa using S.len, fun j d q => ?_, fun j b zs q => ?_, fun j k b zs ws q1 q2 => ?_, S.bx.to (.refl _) (fun q m => ⟨(S.bx.free m).1, (S.bx.free m).2.1, upd_ne (S.bx.apart m e)⟩) (fun j s q => ⟨(set_box (by simp) q).1, rfl⟩) fun j b zs q => (set_own q).elim (fun z => by cases z; exact .inl ⟨i, xs, e⟩) fun q => .inl ⟨j, zs, q⟩⟩
  · have n : b ≠ a := fun z => by subst z; rw [h2] at q; cases q
    rw [upd_ne n]; exact S.hF b x q
  · by_cases hj : i = j
    · subst hj; rw [List.getElem?_set_self hi] at q; cases q
    · rw [List.getElem?_set_ne hj] at q; exact S.val j d q
  · by_cases hj : i = j
    · subst hj
      rw [List.getElem?_set_self hi] at q
      cases q
      exact ⟨h1, h2, h3, vs, upd_same, r⟩
    · rw [List.getElem?_set_ne hj] at q
      obtain ⟨g1, g2, g3, us, g4, g5⟩ := S.own j b zs q
      have n : b ≠ a := fun z => by subst z; exact hj (S.ne _ _ _ _ _ e q)
      exact ⟨g1, g2, g3, us, by rw [upd_ne n]; exact g4, g5⟩
  · by_cases hj : i = j
    · subst hj
      by_cases hk : i = k
      · exact hk
      · rw [List.getElem?_set_self hi] at q1
        rw [List.getElem?_set_ne hk] at q2
        cases q1
        exact absurd (S.ne _ _ _ _ _ e q2) hk
    · by_cases hk : i = k
      · subst hk
        rw [List.getElem?_set_self hi] at q2
        rw [List.getElem?_set_ne hj] at q1
        cases q2
        exact absurd (S.ne _ _ _ _ _ e q1) hj
      · rw [List.getElem?_set_ne hj] at q1
        rw [List.getElem?_set_ne hk] at q2
        exact S.ne _ _ _ _ _ q1 q2
theorem Sim.setVal (S : Sim K G F H σ ρ) (i : Nat) {v : V} {d : D} (r : Rep K F v d) : Sim K G F H (σ.set i (some v)) (ρ.set i (some (.val d))) := by
  refine ⟨S.hF, S.hG, by simpa using S.len, fun j d' q => ?_, fun j b zs q => ?_, fun j k b zs ws q1 q2 => ?_, S.bx.set i _ (by simp) (by simp)⟩
  · by_cases hj : i = j
    · subst hj
      by_cases hi : i < ρ.length
      · rw [List.getElem?_set_self hi] at q
        cases q
        exact ⟨v, List.getElem?_set_self (by rw [S.len]; exact hi), r⟩
      · rw [List.getElem?_eq_none (by simpa using hi)] at q; cases q
    · rw [List.getElem?_set_ne hj] at q ⊢; exact S.val j d' q
  · by_cases hj : i = j
    · subst hj
      by_cases hi : i < ρ.length
      · rw [List.getElem?_set_self hi] at q; cases q
      · rw [List.getElem?_eq_none (by simpa using hi)] at q; cases q
    · rw [List.getElem?_set_ne hj] at q ⊢; exact S.own j b zs q
  · have n : ∀ (j : Nat) (zs : List D), (ρ.set i (some (.val d)))[j]? = some (some (.own b zs)) → ρ[j]? = some (some (.own b zs)) := fun j zs q => by
      by_cases hj : i = j
      · subst hj
        by_cases hi : i < ρ.length
        · rw [List.getElem?_set_self hi] at q; cases q
        · rw [List.getElem?_eq_none (by simpa using hi)] at q; cases q
      · rw [List.getElem?_set_ne hj] at q; exact q
    exact S.ne _ _ _ _ _ (n _ _ q1) (n _ _ q2)
def NotOwn (ρ : Ro) (a : Addr) : Prop := (∀ (i : Nat) (xs : List D), ρ[i]? ≠ some (some (.own a xs))) ∧ ¬ InBox ρ a
theorem Sim.notOwn (S : Sim K G F H σ ρ) {a : Addr} (h : H a = none) : NotOwn ρ a := ⟨fun i xs q => (by
  obtain ⟨_, _, _, vs, h4, _⟩ := S.own i a xs q
  rw [h] at h4
  cases h4), S.bx.fresh h⟩
theorem Sim.setOwn (S : Sim K G F H σ ρ) (i : Nat) {a : Addr} {vs : List V} {xs : List D} (hH : H a = some (.lst vs)) (hF : F a = none) (hG : G a = none) (hn : NotOwn ρ a) (r : Reps K F vs xs) :
    Sim K G F H (σ.set i (some (.ref a))) (ρ.set i (some (.own a xs))) := by
  have far : ∀ (j : Nat) (c : Cell), i ≠ j → (ρ.set i (some (.own a xs)))[j]? = some (some c) → ρ[j]? = some (some c) := fun j c hj q => by
    rw [List.getElem?_set_ne hj] at q; exact q
  have near : ∀ (c : Cell), (ρ.set i (some (.own a xs)))[i]? = some (some c) → c = .own a xs ∧ i < ρ.length := fun c q => by
    by_cases hi : i < ρ.length
    · rw [List.getElem?_set_self hi] at q; cases q; exact ⟨rfl, hi⟩
    · rw [List.getElem?_eq_none (by simpa using hi)] at q; cases q
  refine ⟨S.hF, S.hG, by simpa using S.len, fun j d' q => ?_, fun j b zs q => ?_, fun j k b zs ws q1 q2 => ?_, S.bx.set i _ (by simp) fun b zs z => by cases z; exact .inr hn.2⟩
  · by_cases hj : i = j
    · subst hj; exact nomatch (near _ q).1
    · obtain ⟨v, h1, h2⟩ := S.val j d' (far _ _ hj q)
      exact ⟨v, by rw [List.getElem?_set_ne hj]; exact h1, h2⟩
  · by_cases hj : i = j
    · subst hj
      obtain ⟨e, hi⟩ := near _ q
      cases e
      exact ⟨List.getElem?_set_self (by rw [S.len]; exact hi), hF, hG, vs, hH, r⟩
    · obtain ⟨h1, h2⟩ := S.own j b zs (far _ _ hj q)
      exact ⟨by rw [List.getElem?_set_ne hj]; exact h1, h2⟩
  · by_cases hj : i = j
    · subst hj
      by_cases hk : i = k
      · exact hk
      · have e := (near _ q1).1
        cases e
        exact absurd (far _ _ hk q2) (hn.1 _ _)
    · by_cases hk : i = k
      · subst hk
        have e := (near _ q2).1
        cases e
        exact absurd (far _ _ hj q1) (hn.1 _ _)
      · exact S.ne _ _ _ _ _ (far _ _ hj q1) (far _ _ hk q2)
theorem Sim.forget (S : Sim K G F H σ ρ) (i : Nat) (x : Option V) : Sim K G F H (σ.set i x) (ρ.set i none) := by
  have far : ∀ (j : Nat) (c : Cell), (ρ.set i none)[j]? = some (some c) → ρ[j]? = some (some c) ∧ i ≠ j := fun j c q => by
    by_cases hj : i = j
    · subst hj
      by_cases hi : i < ρ.length
      · rw [List.getElem?_set_self hi] at q; cases q
      · rw [List.getElem?_eq_none (by simpa using hi)] at q; cases q
    · rw [List.getElem?_set_ne hj] at q; exact ⟨q, hj⟩
  refine ⟨S.hF, S.hG, by simpa using S.len, fun j d' q => ?_, fun j b zs q => ?_, fun j k b zs ws q1 q2 => S.ne _ _ _ _ _ (far _ _ q1).1 (far _ _ q2).1, S.bx.set i x (by simp) (by simp)⟩
  · obtain ⟨q1, hj⟩ := far _ _ q
    rw [List.getElem?_set_ne hj]
    exact S.val j d' q1
  · obtain ⟨q1, hj⟩ := far _ _ q
    rw [List.getElem?_set_ne hj]
    exact S.own j b zs q1
theorem Sim.forget' (S : Sim K G F H σ ρ) (i : Nat) : Sim K G F H σ (ρ.set i none) := by
  have far : ∀ (j : Nat) (c : Cell), (ρ.set i none)[j]? = some (some c) → ρ[j]? = some (some c) := fun j c q => by
    by_cases hj : i = j
    · subst hj
      by_cases hi : i < ρ.length
      · rw [List.getElem?_set_self hi] at q; cases q
      · rw [List.getElem?_eq_none (by simpa using hi)] at q; cases q
    · rw [List.getElem?_set_ne hj] at q; exact q
  exact ⟨S.hF, S.hG, by simpa using S.len, fun j d' q => S.val j d' (far _ _ q), fun j b zs q => S.own j b zs (far _ _ q), fun j k b zs ws q1 q2 => S.ne _ _ _ _ _ (far _ _ q1) (far _ _ q2), S.bx.set' i (by simp) (by simp)⟩
theorem Sim.freeze (S : Sim K G F H σ ρ) {i : Nat} {a : Addr} {xs : List D} (e : ρ[i]? = some (some (.own a xs))) :
    ∃ F', Up G F F' ∧ Rep K F' (.ref a) (.lst xs) ∧ Sim K G F' H σ (ρ.set i (some (.val (.lst xs)))) := by
  obtain ⟨h1, h2, h3, vs, h4, h5⟩ := S.own i a xs e
  have hi : i < ρ.length := by
    rcases Nat.lt_or_ge i ρ.length with h | h
    · exact h
    · rw [List.getElem?_eq_none h] at e; cases e
  have sm : Same F (upd F a (.lst vs)) := same_new h2
  have rp : Rep K (upd F a (.lst vs)) (.ref a) (.lst xs) := .lst upd_same (h5.mono sm)
  refine ⟨upd F a (.lst vs), Up.new h2 h3, rp, fun b x q => ?_, S.hG.froz fun b x q => ?_, by simpa using S.len, fun j d q => ?_, fun j b zs q => ?_, fun j k b zs ws q1 q2 => ?_, S.bx.to sm (fun q m => ⟨by rw [upd_ne (S.bx.apart m e)]; exact (S.bx.free m).1, (S.bx.free m).2.1, rfl⟩) (fun j s q => ⟨(set_box (by simp) q).1, rfl⟩) fun j b zs q => (set_own q).elim (fun z => by cases z) fun q => .inl ⟨j, zs, q⟩⟩
  · by_cases n : b = a
    · subst n; rw [upd_same] at q; cases q; exact h4
    · rw [upd_ne n] at q; exact S.hF b x q
  · by_cases n : b = a
    · subst n; exact .inr ⟨vs, h4⟩
    · rw [upd_ne n] at q; exact .inl q
  · by_cases hj : i = j
    · subst hj
      rw [List.getElem?_set_self hi] at q
      cases q
      exact ⟨_, h1, rp⟩
    · rw [List.getElem?_set_ne hj] at q
      obtain ⟨v, g1, g2⟩ := S.val j d q
      exact ⟨v, g1, g2.mono sm⟩
  · by_cases hj : i = j
    · subst hj
      rw [List.getElem?_set_self hi] at q; cases q
    · rw [List.getElem?_set_ne hj] at q
      obtain ⟨g1, g2, g3, us, g4, g5⟩ := S.own j b zs q
      have n : b ≠ a := fun z => by subst z; exact hj (S.ne _ _ _ _ _ e q)
      exact ⟨g1, by rw [upd_ne n]; exact g2, g3, us, g4, g5.mono sm⟩
  · have n : ∀ (j : Nat) (zs : List D), (ρ.set i (some (.val (.lst xs))))[j]? = some (some (.own b zs)) → ρ[j]? = some (some (.own b zs)) := fun j zs q => by
      by_cases hj : i = j
      · subst hj; rw [List.getElem?_set_self hi] at q; cases q
      · rw [List.getElem?_set_ne hj] at q; exact q
    exact S.ne _ _ _ _ _ (n _ _ q1) (n _ _ q2)
end
end Pl
namespace Pl
open PySem PySem.Spec PyProof.Rows L2
variable [TJ]
abbrev TEp := Ro → (D → Ro → Prop) → Prop
abbrev TCp := Ro → (Cell → Ro → Prop) → Prop
abbrev TTp := Ro → (Bool → Ro → Prop) → Prop
abbrev TAp := Ro → (List D → Ro → Prop) → Prop
def SndE (K : PySem.W.Frag) (t : TE) (T : TEp) : Prop := ∀ (G F H : Hp) (σ : L2.St) (ρ : Ro) (Q : D → Ro → Prop) (R : VK), Sim K G F H σ ρ → T ρ Q →
  (∀ v d F' H' ρ', Up G F F' → Sim K G F' H' σ ρ' → Rep K F' v d → Q d ρ' → R v H') → t σ H R
def SndT (K : PySem.W.Frag) (t : TT) (T : TTp) : Prop := ∀ (G F H : Hp) (σ : L2.St) (ρ : Ro) (Q : Bool → Ro → Prop) (R : Bool → Hp → Prop), Sim K G F H σ ρ → T ρ Q →
  (∀ b F' H' ρ', Up G F F' → Sim K G F' H' σ ρ' → Q b ρ' → R b H') → t σ H R
def SndA (K : PySem.W.Frag) (t : TA) (T : TAp) : Prop := ∀ (G F H : Hp) (σ : L2.St) (ρ : Ro) (Q : List D → Ro → Prop) (R : List V → Hp → Prop), Sim K G F H σ ρ → T ρ Q →
  (∀ vs ds F' H' ρ', Up G F F' → Sim K G F' H' σ ρ' → Reps K F' vs ds → Q ds ρ' → R vs H') → t σ H R
def SndC (K : PySem.W.Frag) (t : TE) (T : TCp) : Prop := ∀ (G F H : Hp) (σ : L2.St) (ρ : Ro) (Q : Cell → Ro → Prop) (R : VK), Sim K G F H σ ρ → T ρ Q →
  (∀ v c F' H' ρ', Up G F F' → Sim K G F' H' (σ ++ [some v]) (ρ' ++ [some c]) → Q c ρ' → R v H') → t σ H R
structure PPE (X : Cx) (e : Expr) (t : TE) (T : TEp) : Prop where
  pe : PE X e t
  snd : SndE X.K t T
structure PPC (X : Cx) (e : Expr) (t : TE) (T : TCp) : Prop where
  pe : PE X e t
  snd : SndC X.K t T
structure PPT (X : Cx) (e : Expr) (t : TT) (T : TTp) : Prop where
  pt : PT X e t
  snd : SndT X.K t T
structure PPW (X : Cx) (e : Expr) (t : TT) (T : TTp) : Prop where
  pw : PW X e t
  snd : SndT X.K t T
structure PPA (X : Cx) (es : List Expr) (t : TA) (T : TAp) : Prop where
  pa : PA X es t
  snd : SndA X.K t T
inductive Res (K : PySem.W.Frag) (F H : Hp) (v : V) (d : D) : Hp → Hp → Prop
  | old : Rep K F v d → Res K F H v d F H
  | new {p : Addr} {o : HO} : H p = none → Rep K (upd F p o) v d → Res K F H v d (upd F p o) (upd H p o)
section
variable {K : PySem.W.Frag} {G F H F' H' : Hp} {σ : L2.St} {ρ : Ro} {v : V} {d : D}
theorem Sim.res (S : Sim K G F H σ ρ) (r : Res K F H v d F' H') : Up G F F' ∧ Sim K G F' H' σ ρ ∧ Rep K F' v d := by
  cases r with
  | old r => exact ⟨.refl _ _, S, r⟩
  | new h r => exact ⟨S.upNew h, S.new h, r⟩
theorem cut_last {ρ : Ro} {c : Cell} {i : Nat} {x : Cell} (h : (ρ ++ [some c])[i]? = some (some x)) : (ρ[i]? = some (some x) ∧ i < ρ.length) ∨ (i = ρ.length ∧ x = c) := by
  rcases Nat.lt_or_ge i ρ.length with q | q
  · rw [List.getElem?_append_left q] at h; exact .inl ⟨h, q⟩
  · rw [List.getElem?_append_right q] at h
    rcases Nat.eq_zero_or_pos (i - ρ.length) with z | z
    · rw [z] at h; simp at h; exact .inr ⟨by omega, h.symm⟩
    · rw [List.getElem?_eq_none (by simp; omega)] at h; cases h
theorem at_lt {ρ : Ro} {i : Nat} {c : Cell} (h : ρ[i]? = some (some c)) : i < ρ.length := by
  rcases Nat.lt_or_ge i ρ.length with q | q
  · exact q
  · rw [List.getElem?_eq_none q] at h; cases h
theorem at_more {ρ : Ro} {i : Nat} {x c : Cell} (h : ρ[i]? = some (some x)) : (ρ ++ [some c])[i]? = some (some x) := by rw [List.getElem?_append_left (at_lt h)]; exact h
theorem BxOk.push {G F H : Hp} {σ : L2.St} {ρ : Ro} {c : Cell} (B : BxOk K F G H σ ρ) (hl : σ.length = ρ.length) (v : Option V) (hc : ∀ t, c ≠ .box t) (ho : ∀ a xs, c = .own a xs → ¬ InBox ρ a) : BxOk K F G H (σ ++ [v]) (ρ ++ [some c]) :=
  B.to (.refl _) (fun p m => ⟨(B.free m).1, (B.free m).2.1, rfl⟩) (fun i s h => by
    rcases cut_last h with ⟨h, q⟩ | ⟨_, e⟩
    · exact ⟨h, by rw [List.getElem?_append_left (by rw [hl]; exact q)]⟩
    · exact absurd e.symm (hc s)) fun j a xs h => by
    rcases cut_last h with ⟨h, q⟩ | ⟨_, e⟩
    · exact .inl ⟨j, xs, h⟩
    · exact .inr (ho a xs e.symm)
theorem BxOk.drop {G F H : Hp} {σ : L2.St} {ρ : Ro} {c : Cell} {v : Option V} (B : BxOk K F G H (σ ++ [v]) (ρ ++ [some c])) (hl : σ.length = ρ.length) : BxOk K F G H σ ρ :=
  B.to (.refl _) (fun p m => ⟨(B.free m).1, (B.free m).2.1, rfl⟩) (fun i s h => ⟨at_more h, by rw [List.getElem?_append_left (by rw [hl]; exact at_lt h)]⟩) fun j a xs h => .inl ⟨j, xs, at_more h⟩
theorem Sim.drop {c : Cell} (S : Sim K G F H (σ ++ [some v]) (ρ ++ [some c])) : Sim K G F H σ ρ := by
  have hl : σ.length = ρ.length := by have := S.len; simpa using this
  have ix : ∀ {i : Nat} {c : Cell}, ρ[i]? = some (some c) → i < ρ.length := fun {i c} h => by
    rcases Nat.lt_or_ge i ρ.length with q | q
    · exact q
    · rw [List.getElem?_eq_none q] at h; cases h
  have up : ∀ {i : Nat} {x : Cell}, ρ[i]? = some (some x) → (ρ ++ [some c])[i]? = some (some x) := fun {i x} h => by
    rw [List.getElem?_append_left (ix h)]; exact h
  refine ⟨S.hF, S.hG, hl, fun i d h => ?_, fun i a xs h => ?_, fun i j a xs ys h1 h2 => S.ne i j a xs ys (up h1) (up h2), S.bx.drop hl⟩
  · obtain ⟨v, h1, h2⟩ := S.val i d (up h)
    rw [List.getElem?_append_left (by rw [hl]; exact ix h)] at h1
    exact ⟨v, h1, h2⟩
  · obtain ⟨h1, h2⟩ := S.own i a xs (up h)
    rw [List.getElem?_append_left (by rw [hl]; exact ix h)] at h1
    exact ⟨h1, h2⟩
theorem Sim.lastVal (S : Sim K G F H (σ ++ [some v]) (ρ ++ [some (.val d)])) : Rep K F v d := by
  have hl : σ.length = ρ.length := by have := S.len; simpa using this
  obtain ⟨u, h1, h2⟩ := S.val ρ.length d (by simp)
  rw [← hl] at h1
  simp at h1
  subst h1
  exact h2
theorem Sim.lastOwn {a : Addr} {xs : List D} (S : Sim K G F H (σ ++ [some v]) (ρ ++ [some (.own a xs)])) : v = .ref a ∧ F a = none ∧ G a = none ∧ NotOwn ρ a ∧ ∃ vs, H a = some (.lst vs) ∧ Reps K F vs xs := by
  have hl : σ.length = ρ.length := by have := S.len; simpa using this
  obtain ⟨h1, h2, h3, h4⟩ := S.own ρ.length a xs (by simp)
  rw [← hl] at h1
  simp at h1
  refine ⟨h1, h2, h3, ⟨fun i ys h => ?_, fun ⟨i, s, m1, m2⟩ => S.bx.bo ρ.length a xs (by simp) ⟨i, s, at_more m1, m2⟩⟩, h4⟩
  have hi : i < ρ.length := by
    rcases Nat.lt_or_ge i ρ.length with q | q
    · exact q
    · rw [List.getElem?_eq_none q] at h; cases h
  have := S.ne i ρ.length a ys xs (by rw [List.getElem?_append_left hi]; exact h) (by simp)
  omega
theorem Sim.pushVal (S : Sim K G F H σ ρ) (r : Rep K F v d) : Sim K G F H (σ ++ [some v]) (ρ ++ [some (.val d)]) := by
  have cut : ∀ {i : Nat} {x : Cell}, (ρ ++ [some (.val d)])[i]? = some (some x) → (ρ[i]? = some (some x) ∧ i < ρ.length) ∨ (i = ρ.length ∧ x = .val d) := fun {i x} h => by
    rcases Nat.lt_or_ge i ρ.length with q | q
    · rw [List.getElem?_append_left q] at h; exact .inl ⟨h, q⟩
    · rw [List.getElem?_append_right q] at h
      rcases Nat.eq_zero_or_pos (i - ρ.length) with z | z
      · rw [z] at h; simp at h; exact .inr ⟨by omega, h.symm⟩
      · rw [List.getElem?_eq_none (by simp; omega)] at h; cases h
  refine ⟨S.hF, S.hG, by simp [S.len], fun i d' h => ?_, fun i a xs h => ?_, fun i j a xs ys h1 h2 => ?_, S.bx.push S.len _ (by simp) (by simp)⟩
  · rcases cut h with ⟨h, q⟩ | ⟨rfl, e⟩
    · obtain ⟨u, g1, g2⟩ := S.val i d' h
      exact ⟨u, by rw [List.getElem?_append_left (by rw [S.len]; exact q)]; exact g1, g2⟩
    · cases e
      exact ⟨v, by rw [← S.len]; simp, r⟩
  · rcases cut h with ⟨h, q⟩ | ⟨_, e⟩
    · obtain ⟨g1, g2⟩ := S.own i a xs h
      exact ⟨by rw [List.getElem?_append_left (by rw [S.len]; exact q)]; exact g1, g2⟩
    · cases e
  · rcases cut h1 with ⟨h1, _⟩ | ⟨_, e⟩
    · rcases cut h2 with ⟨h2, _⟩ | ⟨_, e⟩
      · exact S.ne i j a xs ys h1 h2
      · cases e
    · cases e
theorem Sim.pushOwn (S : Sim K G F H σ ρ) {a : Addr} {vs : List V} {xs : List D} (hH : H a = some (.lst vs)) (hF : F a = none) (hG : G a = none) (hn : NotOwn ρ a) (r : Reps K F vs xs) :
    Sim K G F H (σ ++ [some (.ref a)]) (ρ ++ [some (.own a xs)]) := by
  have cut : ∀ {i : Nat} {x : Cell}, (ρ ++ [some (.own a xs)])[i]? = some (some x) → (ρ[i]? = some (some x) ∧ i < ρ.length) ∨ (i = ρ.length ∧ x = .own a xs) := fun {i x} h => by
    rcases Nat.lt_or_ge i ρ.length with q | q
    · rw [List.getElem?_append_left q] at h; exact .inl ⟨h, q⟩
    · rw [List.getElem?_append_right q] at h
      rcases Nat.eq_zero_or_pos (i - ρ.length) with z | z
      · rw [z] at h; simp at h; exact .inr ⟨by omega, h.symm⟩
      · rw [List.getElem?_eq_none (by simp; omega)] at h; cases h
  refine ⟨S.hF, S.hG, by simp [S.len], fun i d' h => ?_, fun i b ys h => ?_, fun i j b ys zs h1 h2 => ?_, S.bx.push S.len _ (by simp) fun b ys e => by cases e; exact hn.2⟩
  · rcases cut h with ⟨h, q⟩ | ⟨_, e⟩
    · obtain ⟨u, g1, g2⟩ := S.val i d' h
      exact ⟨u, by rw [List.getElem?_append_left (by rw [S.len]; exact q)]; exact g1, g2⟩
    · cases e
  · rcases cut h with ⟨h, q⟩ | ⟨rfl, e⟩
    · obtain ⟨g1, g2⟩ := S.own i b ys h
      exact ⟨by rw [List.getElem?_append_left (by rw [S.len]; exact q)]; exact g1, g2⟩
    · cases e
      exact ⟨by rw [← S.len]; simp, hF, hG, vs, hH, r⟩
  · rcases cut h1 with ⟨h1, _⟩ | ⟨e1, e⟩
    · rcases cut h2 with ⟨h2, _⟩ | ⟨_, e⟩
      · exact S.ne i j b ys zs h1 h2
      · cases e
        exact absurd h1 (hn.1 _ _)
    · cases e
      rcases cut h2 with ⟨h2, _⟩ | ⟨e2, _⟩
      · exact absurd h2 (hn.1 _ _)
      · omega
theorem Sim.lastBox {s : Sh} (S : Sim K G F H (σ ++ [some v]) (ρ ++ [some (.box s)])) : v = .ref s.root ∧ (∀ p ∈ s.foot, F p = none ∧ G p = none) ∧ s.At K F H ∧ ∀ p ∈ s.foot, NotOwn ρ p := by
  have hl : σ.length = ρ.length := by have := S.len; simpa using this
  obtain ⟨h1, h2, h3⟩ := S.bx.box ρ.length s (by simp)
  rw [← hl] at h1
  simp at h1
  refine ⟨h1, h2, h3, fun p m => ⟨fun i ys h => ?_, fun ⟨i, t, m1, m2⟩ => ?_⟩⟩
  · exact S.bx.bo i p ys (at_more h) ⟨ρ.length, s, by simp, m⟩
  · have := S.bx.bb i ρ.length t s p (at_more m1) (by simp) m2 m
    have := at_lt m1
    omega
theorem Sim.pushBox (S : Sim K G F H σ ρ) {s : Sh} (hf : ∀ p ∈ s.foot, F p = none ∧ G p = none) (ha : s.At K F H) (hn : ∀ p ∈ s.foot, NotOwn ρ p) : Sim K G F H (σ ++ [some (.ref s.root)]) (ρ ++ [some (.box s)]) := by
  refine ⟨S.hF, S.hG, by simp [S.len], fun i d' h => ?_, fun i b ys h => ?_, fun i j b ys zs h1 h2 => ?_, fun i t h => ?_, fun i j t u p h1 h2 m1 m2 => ?_, fun j a xs h ⟨i, t, h1, m⟩ => ?_⟩
  · rcases cut_last h with ⟨h, q⟩ | ⟨_, e⟩
    · obtain ⟨u, g1, g2⟩ := S.val i d' h
      exact ⟨u, by rw [List.getElem?_append_left (by rw [S.len]; exact q)]; exact g1, g2⟩
    · cases e
  · rcases cut_last h with ⟨h, q⟩ | ⟨_, e⟩
    · obtain ⟨g1, g2⟩ := S.own i b ys h
      exact ⟨by rw [List.getElem?_append_left (by rw [S.len]; exact q)]; exact g1, g2⟩
    · cases e
  · rcases cut_last h1 with ⟨h1, _⟩ | ⟨_, e⟩
    · rcases cut_last h2 with ⟨h2, _⟩ | ⟨_, e⟩
      · exact S.ne i j b ys zs h1 h2
      · cases e
    · cases e
  · rcases cut_last h with ⟨h, q⟩ | ⟨rfl, e⟩
    · obtain ⟨g1, g2⟩ := S.bx.box i t h
      exact ⟨by rw [List.getElem?_append_left (by rw [S.len]; exact q)]; exact g1, g2⟩
    · cases e
      exact ⟨by rw [← S.len]; simp, hf, ha⟩
  · rcases cut_last h1 with ⟨h1, _⟩ | ⟨e1, e⟩
    · rcases cut_last h2 with ⟨h2, _⟩ | ⟨_, e⟩
      · exact S.bx.bb i j t u p h1 h2 m1 m2
      · cases e
        exact absurd ⟨i, t, h1, m1⟩ (hn p m2).2
    · cases e
      rcases cut_last h2 with ⟨h2, _⟩ | ⟨e2, _⟩
      · exact absurd ⟨j, u, h2, m2⟩ (hn p m1).2
      · omega
  · rcases cut_last h with ⟨h, _⟩ | ⟨_, e⟩
    · rcases cut_last h1 with ⟨h1, _⟩ | ⟨_, e⟩
      · exact S.bx.bo j a xs h ⟨i, t, h1, m⟩
      · cases e
        exact (hn a m).1 j xs h
    · cases e
theorem Sim.setBox (S : Sim K G F H σ ρ) (i : Nat) {s : Sh} (hf : ∀ p ∈ s.foot, F p = none ∧ G p = none) (ha : s.At K F H) (hn : ∀ p ∈ s.foot, NotOwn ρ p) : Sim K G F H (σ.set i (some (.ref s.root))) (ρ.set i (some (.box s))) := by
  have far : ∀ (j : Nat) (c : Cell), i ≠ j → (ρ.set i (some (.box s)))[j]? = some (some c) → ρ[j]? = some (some c) := fun j c hj q => by
    rw [List.getElem?_set_ne hj] at q; exact q
  have near : ∀ (c : Cell), (ρ.set i (some (.box s)))[i]? = some (some c) → c = .box s ∧ i < ρ.length := fun c q => by
    by_cases hi : i < ρ.length
    · rw [List.getElem?_set_self hi] at q; cases q; exact ⟨rfl, hi⟩
    · rw [List.getElem?_eq_none (by simpa using hi)] at q; cases q
  have cut : ∀ {j : Nat} {x : Cell}, (ρ.set i (some (.box s)))[j]? = some (some x) → (ρ[j]? = some (some x) ∧ i ≠ j) ∨ (j = i ∧ x = .box s ∧ i < ρ.length) := fun {j x} h => by
    by_cases hj : i = j
    · subst hj; exact .inr ⟨rfl, near _ h⟩
    · exact .inl ⟨far _ _ hj h, hj⟩
  refine ⟨S.hF, S.hG, by simpa using S.len, fun j d' h => ?_, fun j b ys h => ?_, fun j k b ys zs h1 h2 => ?_, fun j t h => ?_, fun j k t u p h1 h2 m1 m2 => ?_, fun j a xs h ⟨k, t, h1, m⟩ => ?_⟩
  · rcases cut h with ⟨h, q⟩ | ⟨_, e, _⟩
    · obtain ⟨u, g1, g2⟩ := S.val j d' h
      exact ⟨u, by rw [List.getElem?_set_ne q]; exact g1, g2⟩
    · cases e
  · rcases cut h with ⟨h, q⟩ | ⟨_, e, _⟩
    · obtain ⟨g1, g2⟩ := S.own j b ys h
      exact ⟨by rw [List.getElem?_set_ne q]; exact g1, g2⟩
    · cases e
  · rcases cut h1 with ⟨h1, _⟩ | ⟨_, e, _⟩
    · rcases cut h2 with ⟨h2, _⟩ | ⟨_, e, _⟩
      · exact S.ne j k b ys zs h1 h2
      · cases e
    · cases e
  · rcases cut h with ⟨h, q⟩ | ⟨rfl, e, hi⟩
    · obtain ⟨g1, g2⟩ := S.bx.box j t h
      exact ⟨by rw [List.getElem?_set_ne q]; exact g1, g2⟩
    · cases e
      exact ⟨List.getElem?_set_self (by rw [S.len]; exact hi), hf, ha⟩
  · rcases cut h1 with ⟨h1, _⟩ | ⟨e1, e, _⟩
    · rcases cut h2 with ⟨h2, _⟩ | ⟨_, e, _⟩
      · exact S.bx.bb j k t u p h1 h2 m1 m2
      · cases e
        exact absurd ⟨j, t, h1, m1⟩ (hn p m2).2
    · cases e
      rcases cut h2 with ⟨h2, _⟩ | ⟨e2, _⟩
      · exact absurd ⟨k, u, h2, m2⟩ (hn p m1).2
      · omega
  · rcases cut h with ⟨h, _⟩ | ⟨_, e, _⟩
    · rcases cut h1 with ⟨h1, _⟩ | ⟨_, e, _⟩
      · exact S.bx.bo j a xs h ⟨k, t, h1, m⟩
      · cases e
        exact (hn a m).1 j xs h
    · cases e
theorem Sim.store {c : Cell} (S : Sim K G F H (σ ++ [some v]) (ρ ++ [some c])) (i : Nat) : Sim K G F H (σ.set i (some v)) (ρ.set i (some c)) := by
  cases c with
  | val d => exact S.drop.setVal i S.lastVal
  | own a xs =>
    obtain ⟨rfl, h2, h3, h4, vs, h5, h6⟩ := S.lastOwn
    exact S.drop.setOwn i h5 h2 h3 h4 h6
  | box s =>
    obtain ⟨rfl, h2, h3, h4⟩ := S.lastBox
    exact S.drop.setBox i h2 h3 h4
def Cell.froz : Cell → D
  | .val d => d
  | .own _ xs => .lst xs
  | .box s => .adr s.root
theorem Sim.froz {c : Cell} (S : Sim K G F H (σ ++ [some v]) (ρ ++ [some c])) : ∃ F', Up G F F' ∧ Sim K G F' H σ ρ ∧ Rep K F' v c.froz := by
  cases c with
  | val d => exact ⟨F, .refl _ _, S.drop, S.lastVal⟩
  | own a xs =>
    obtain ⟨rfl, _⟩ := S.lastOwn
    obtain ⟨F', u, r, S'⟩ := S.freeze (i := ρ.length) (a := a) (xs := xs) (by simp)
    refine ⟨F', u, ?_, r⟩
    rw [List.set_append_right _ _ (Nat.le_refl _)] at S'
    simp at S'
    exact S'.drop
  | box s =>
    obtain ⟨rfl, _⟩ := S.lastBox
    exact ⟨F, .refl _ _, S.drop, .adr _⟩
end
section
variable {X : Cx}
def pFrz (T : TCp) : TEp := fun ρ Q => T ρ fun c ρ' => Q c.froz ρ'
def pVal (T : TEp) : TCp := fun ρ Q => T ρ fun d ρ' => Q (.val d) ρ'
theorem ppe_frz {e : Expr} {t : TE} {T : TCp} (h : PPC X e t T) : PPE X e t (pFrz T) := ⟨h.pe, fun G F H σ ρ Q R S hT k => h.snd G F H σ ρ _ R S hT fun v c F' H' ρ' u S' q => by
  obtain ⟨F2, u2, S2, r2⟩ := S'.froz
  exact k v _ F2 H' ρ' (u.trans u2) S2 r2 q⟩
theorem ppc_val {e : Expr} {t : TE} {T : TEp} (h : PPE X e t T) : PPC X e t (pVal T) := ⟨h.pe, fun G F H σ ρ Q R S hT k => h.snd G F H σ ρ _ R S hT fun v d F' H' ρ' u S' r q => k v _ F' H' ρ' u (S'.pushVal r) q⟩
def pVar (i : Nat) : TEp := fun ρ Q => match ρ[i]? with
  | some (some (.val d)) => Q d ρ
  | some (some (.own _ xs)) => Q (.lst xs) (ρ.set i (some (.val (.lst xs))))
  | _ => False
theorem ppe_var (i : Nat) {x : Str} {pos : Pos} (hN : X.N[i]? = some x := by rfl) (hv : Vis X.env.scope x := by first | exact Or.inl rfl | exact Or.inr (Or.inl rfl) | exact Or.inr (Or.inr rfl)) (hd : (x == ("__debug__" : Str)) = false := by decide)
    (hcd : (x == ("__classdict__" : Str)) = false := by decide) : PPE X (.Name x pos) (tVar i) (pVar i) := ⟨pe_var hN hv hd hcd, fun G F H σ ρ Q R S hT k => by
  unfold pVar at hT
  split at hT
  · rename_i d e
    obtain ⟨v, h1, h2⟩ := S.val i d e
    exact ⟨v, h1, k v d F H ρ (.refl _ _) S h2 hT⟩
  · rename_i a xs e
    obtain ⟨F', u, r, S'⟩ := S.freeze e
    exact ⟨.ref a, (S.own i a xs e).1, k _ _ F' H _ u S' r hT⟩
  · exact hT.elim⟩
def pMove (i : Nat) : TCp := fun ρ Q => match ρ[i]? with
  | some (some (.val d)) => Q (.val d) ρ
  | some (some (.own a xs)) => Q (.own a xs) (ρ.set i none)
  | some (some (.box s)) => Q (.box s) (ρ.set i none)
  | _ => False
theorem ppc_move (i : Nat) {x : Str} {pos : Pos} (hN : X.N[i]? = some x := by rfl) (hv : Vis X.env.scope x := by first | exact Or.inl rfl | exact Or.inr (Or.inl rfl) | exact Or.inr (Or.inr rfl)) (hd : (x == ("__debug__" : Str)) = false := by decide)
    (hcd : (x == ("__classdict__" : Str)) = false := by decide) : PPC X (.Name x pos) (tVar i) (pMove i) := ⟨pe_var hN hv hd hcd, fun G F H σ ρ Q R S hT k => by
  unfold pMove at hT
  split at hT
  · rename_i d e
    obtain ⟨v, h1, h2⟩ := S.val i d e
    exact ⟨v, h1, k v _ F H ρ (.refl _ _) (S.pushVal h2) hT⟩
  · rename_i a xs e
    obtain ⟨h1, h2, h3, vs, h4, h5⟩ := S.own i a xs e
    refine ⟨.ref a, h1, k _ _ F H _ (.refl _ _) ((S.forget' i).pushOwn h4 h2 h3 ⟨fun j ys q => ?_, fun ⟨j, s, m1, m2⟩ => S.bx.bo i a xs e ⟨j, s, (set_box (by simp) m1).1, m2⟩⟩ h5) hT⟩
    by_cases hj : i = j
    · subst hj
      by_cases hi : i < ρ.length
      · rw [List.getElem?_set_self hi] at q; cases q
      · rw [List.getElem?_eq_none (by simpa using hi)] at q; cases q
    · rw [List.getElem?_set_ne hj] at q
      exact hj (S.ne _ _ _ _ _ e q)
  · rename_i s e
    obtain ⟨h1, h2, h3⟩ := S.bx.box i s e
    refine ⟨.ref s.root, h1, k _ _ F H _ (.refl _ _) ((S.forget' i).pushBox h2 h3 fun p m => ⟨fun j ys q => ?_, fun ⟨j, t, m1, m2⟩ => ?_⟩) hT⟩
    · exact S.bx.bo j p ys ((set_own q).elim (fun z => by cases z) id) ⟨i, s, e, m⟩
    · obtain ⟨q1, q2⟩ := set_box (by simp) m1
      exact q2 (S.bx.bb i j s t p e q1 m m2)
  · exact hT.elim⟩
def pC (d : D) : TEp := fun ρ Q => Q d ρ
theorem snd_c {K : PySem.W.Frag} {v : V} {d : D} (h : ∀ F, Rep K F v d) : SndE K (tC v) (pC d) := fun G F H σ ρ Q R S hT k => k v d F H ρ (.refl _ _) S (h F) hT
theorem ppe_int {i j pos} : PPE X (.Constant (.int i) j pos) (tC (.int i)) (pC (.int i)) := ⟨pe_int, snd_c fun _ => .int i⟩
theorem ppe_bl {b j pos} : PPE X (.Constant (.bool b) j pos) (tC (.bl b)) (pC (.bl b)) := ⟨pe_bl, snd_c fun _ => .bl b⟩
theorem ppe_non {j pos} : PPE X (.Constant .none j pos) (tC .non) (pC .non) := ⟨pe_non, snd_c fun _ => .non⟩
theorem ppe_str {x j pos} : PPE X (.Constant (.str x) j pos) (tC (.str x)) (pC (.str x)) := ⟨pe_str, snd_c fun _ => .str x⟩
abbrev F2 := D → D → (D → Prop) → Prop
abbrev F1 := D → (D → Prop) → Prop
def OpP (K : PySem.W.Frag) (r : R2) (f : F2) : Prop := ∀ (F H : Hp) (x y : V) (dx dy : D) (Q : D → Prop) (R : VK), Same F H → Rep K F x dx → Rep K F y dy → f dx dy Q →
  (∀ v d F' H', Res K F H v d F' H' → Q d → R v H') → r x y H R
def UnP (K : PySem.W.Frag) (r : V → Hp → VK → Prop) (f : F1) : Prop := ∀ (F H : Hp) (x : V) (dx : D) (Q : D → Prop) (R : VK), Same F H → Rep K F x dx → f dx Q →
  (∀ v d F' H', Res K F H v d F' H' → Q d → R v H') → r x H R
def CallP (K : PySem.W.Frag) (r : List V → Hp → VK → Prop) (f : List D → (D → Prop) → Prop) : Prop := ∀ (F H : Hp) (xs : List V) (ds : List D) (Q : D → Prop) (R : VK), Same F H → Reps K F xs ds → f ds Q →
  (∀ v d F' H', Res K F H v d F' H' → Q d → R v H') → r xs H R
def pOp (f : F2) (Ta Tb : TEp) : TEp := fun ρ Q => Ta ρ fun x ρ1 => Tb ρ1 fun y ρ2 => f x y fun z => Q z ρ2
def pUn (f : F1) (Ta : TEp) : TEp := fun ρ Q => Ta ρ fun x ρ1 => f x fun z => Q z ρ1
theorem snd_op {K : PySem.W.Frag} {r : R2} {f : F2} {ta tb : TE} {Ta Tb : TEp} (hp : OpP K r f) (ha : SndE K ta Ta) (hb : SndE K tb Tb) : SndE K (tOp r ta tb) (pOp f Ta Tb) := fun G F H σ ρ Q R S hT k =>
  ha G F H σ ρ _ _ S hT fun x dx F1 H1 ρ1 u1 S1 r1 h1 => hb G F1 H1 σ ρ1 _ _ S1 h1 fun y dy F2 H2 ρ2 u2 S2 r2 h2 =>
    hp F2 H2 x y dx dy _ _ S2.hF (r1.mono u2.ex) r2 h2 fun v d F3 H3 res q => by
      obtain ⟨u3, S3, r3⟩ := S2.res res
      exact k v d F3 H3 ρ2 ((u1.trans u2).trans u3) S3 r3 q
theorem snd_un {K : PySem.W.Frag} {r : V → Hp → VK → Prop} {f : F1} {ta : TE} {Ta : TEp} (hp : UnP K r f) (ha : SndE K ta Ta) : SndE K (tUn r ta) (pUn f Ta) := fun G F H σ ρ Q R S hT k =>
  ha G F H σ ρ _ _ S hT fun x dx F1 H1 ρ1 u1 S1 r1 h1 => hp F1 H1 x dx _ _ S1.hF r1 h1 fun v d F3 H3 res q => by
      obtain ⟨u3, S3, r3⟩ := S1.res res
      exact k v d F3 H3 ρ1 (u1.trans u3) S3 r3 q
variable {a b c : Expr} {ta tb tc : TE} {Ta Tb Tc : TEp} {pos : Pos}
theorem ppe_op {op : Operator} {r : R2} {f : F2} (ho : OpR X (binaryOp op) r) (hp : OpP X.K r f) (ha : PPE X a ta Ta) (hb : PPE X b tb Tb) : PPE X (.BinOp a op b pos) (tOp r ta tb) (pOp f Ta Tb) := ⟨pe_op ho ha.pe hb.pe, snd_op hp ha.snd hb.snd⟩
theorem ppe_un {op : UnaryOp} {r : V → Hp → VK → Prop} {f : F1} (ho : UnR X (unaryOp op) r) (hp : UnP X.K r f) (ha : PPE X a ta Ta) : PPE X (.UnaryOp op a pos) (tUn r ta) (pUn f Ta) := ⟨pe_un ho ha.pe, snd_un hp ha.snd⟩
theorem OpP.or {K : PySem.W.Frag} {r r' : R2} {f : F2} (h : ∀ (F H : Hp) (x y : V) (dx dy : D) (Q : D → Prop) (R : VK), Same F H → Rep K F x dx → Rep K F y dy → f dx dy Q →
  (∀ v d F' H', Res K F H v d F' H' → Q d → R v H') → r x y H R ∨ r' x y H R) : OpP K (fun x y H Q => r x y H Q ∨ r' x y H Q) f := h
def fAdd : F2 := fun x y Q => match x, y with
  | .int i, .int j => Q (.int (i + j))
  | .str i, .str j => i.length + j.length ≤ sizeLine ∧ Q (.str (i ++ j))
  | .lst xs, .lst ys => xs.length + ys.length ≤ sizeLine ∧ Q (.lst (xs ++ ys))
  | .tup xs, .tup ys => xs.length + ys.length ≤ sizeLine ∧ Q (.tup (xs ++ ys))
  | _, _ => False
def rAddA (K : PySem.W.Frag) : R2 := fun x y H Q => (rI0 (fun i j => .int (i + j)) x y H Q ∨ (∃ i j, x = .str i ∧ y = .str j ∧ i.length + j.length ≤ sizeLine ∧ Q (.str (i ++ j)) H)) ∨ (rCat x y H Q ∨ rCatA K x y H Q)
theorem opr_add : OpR X (binaryOp .Add) (rAddA X.K) := OpR.or (OpR.or op_add op_add_str) (OpR.or op_cat op_catA)
theorem opp_add : OpP X.K (rAddA X.K) fAdd := fun F H x y dx dy Q R hs rx ry hf k => by
  cases rx with
  | int i =>
    cases ry with
    | int j => exact .inl (.inl ⟨i, j, rfl, rfl, k _ _ _ _ (.old (.int _)) hf⟩)
    | _ => exact hf.elim
  | str i =>
    cases ry with
    | str j => exact .inl (.inr ⟨i, j, rfl, rfl, hf.1, k _ _ _ _ (.old (.str _)) hf.2⟩)
    | _ => exact hf.elim
  | lst h1 r1 =>
    cases ry with
    | lst h2 r2 =>
      refine .inr (.inl ⟨_, _, _, _, rfl, rfl, hs _ _ h1, hs _ _ h2, by rw [r1.length, r2.length]; exact hf.1, fun p hp => ?_⟩)
      have hn : F p = none := hs.free hp
      exact k _ _ _ _ (.new hp (.lst upd_same ((r1.mono (same_new hn)).append (r2.mono (same_new hn))))) hf.2
    | _ => exact hf.elim
  | @tup _ vs xs h1 r1 =>
    cases ry with
    | @tup _ ws ys h2 r2 =>
      refine .inr (.inr ⟨_, _, _, _, rfl, rfl, SqT.of (hs _ _ h1), SqT.of (hs _ _ h2), by rw [r1.length, r2.length]; exact hf.1, fun e => ?_, fun e e2 => ?_, fun e e2 p hp => ?_⟩)
      · have := r1.length; subst e; cases r1; exact k _ _ _ _ (.old (.tup h2 r2)) hf.2
      · subst e2; cases r2; refine k _ _ _ _ (.old (.tup h1 r1)) ?_; have := hf.2; simpa using this
      · have hn : F p = none := hs.free hp
        exact k _ _ _ _ (.new hp (.tup upd_same ((r1.mono (same_new hn)).append (r2.mono (same_new hn))))) hf.2
    | _ => exact hf.elim
  | non => exact hf.elim
  | bl _ => exact hf.elim
  | scr _ => exact hf.elim
  | adr _ => exact hf.elim
  | exc _ _ _ _ => exact hf.elim
def f2I (C : Int → Int → Prop) (g : Int → Int → D) : F2 := fun x y Q => match x, y with
  | .int i, .int j => C i j ∧ Q (g i j)
  | _, _ => False
def f2I0 (g : Int → Int → D) : F2 := fun x y Q => match x, y with
  | .int i, .int j => Q (g i j)
  | _, _ => False
theorem opp_I {C C' : Int → Int → Prop} {g : Int → Int → V} {g' : Int → Int → D} (hc : ∀ i j, C' i j → C i j) (h : ∀ F i j, Rep X.K F (g i j) (g' i j)) : OpP X.K (rI C g) (f2I C' g') := fun F H x y dx dy Q R hs rx ry hf k => by
  cases rx with
  | int i =>
    cases ry with
    | int j => exact ⟨i, j, rfl, rfl, hc _ _ hf.1, k _ _ _ _ (.old (h F i j)) hf.2⟩
    | _ => exact hf.elim
  | _ => exact hf.elim
theorem opp_I0 {g : Int → Int → V} {g' : Int → Int → D} (h : ∀ F i j, Rep X.K F (g i j) (g' i j)) : OpP X.K (rI0 g) (f2I0 g') := fun F H x y dx dy Q R hs rx ry hf k => by
  cases rx with
  | int i =>
    cases ry with
    | int j => exact ⟨i, j, rfl, rfl, k _ _ _ _ (.old (h F i j)) hf⟩
    | _ => exact hf.elim
  | _ => exact hf.elim
def fSub : F2 := f2I0 fun i j => .int (i - j)
def fMod : F2 := f2I (fun _ j => 0 < j) fun i j => .int (i % j)
def fDiv : F2 := f2I (fun _ j => 0 < j ∧ j < 2 ^ 64) fun i j => .int (i / j)
def fMulI : F2 := f2I CMul fun i j => .int (i * j)
theorem ppe_add (ha : PPE X a ta Ta) (hb : PPE X b tb Tb) : PPE X (.BinOp a .Add b pos) (tOp (rAddA X.K) ta tb) (pOp fAdd Ta Tb) := ppe_op opr_add opp_add ha hb
theorem ppe_sub (ha : PPE X a ta Ta) (hb : PPE X b tb Tb) : PPE X (.BinOp a .Sub b pos) (tOp (rI0 fun i j => .int (i - j)) ta tb) (pOp fSub Ta Tb) := ppe_op op_sub (opp_I0 fun _ _ _ => .int _) ha hb
theorem ppe_mul (ha : PPE X a ta Ta) (hb : PPE X b tb Tb) : PPE X (.BinOp a .Mult b pos) (tOp (rI CMul fun i j => .int (i * j)) ta tb) (pOp fMulI Ta Tb) := ppe_op op_mul (opp_I (fun _ _ h => h) fun _ _ _ => .int _) ha hb
theorem ppe_mod (ha : PPE X a ta Ta) (hb : PPE X b tb Tb) : PPE X (.BinOp a .Mod b pos) (tOp (rI (fun _ j => 0 < j) fun i j => .int (i % j)) ta tb) (pOp fMod Ta Tb) := ppe_op op_mod (opp_I (fun _ _ h => h) fun _ _ _ => .int _) ha hb
theorem ppe_div (ha : PPE X a ta Ta) (hb : PPE X b tb Tb) : PPE X (.BinOp a .FloorDiv b pos) (tOp (rI CDivW fun i j => .int (i / j)) ta tb) (pOp fDiv Ta Tb) :=
  ppe_op op_fdivW (opp_I (fun _ _ h => wide_div (b := 64) h.1 (by have := h.1; have := h.2; omega) (by decide) (by decide)) fun _ _ _ => .int _) ha hb
theorem ppe_powc {i j : Int} {u v pa pb} (n : Int) (h : 0 ≤ j ∧ j ≤ 1000000 ∧ i.natAbs < 2 ^ 64 := by decide) (hn : i ^ j.toNat = n := by decide) : PPE X (.BinOp (.Constant (.int i) u pa) .Pow (.Constant (.int j) v pb) pos) (tOp (rI CPow fun i j => .int (i ^ j.toNat)) (tC (.int i)) (tC (.int j))) (pC (.int n)) :=
  ⟨pe_op op_pow pe_int pe_int, fun G F H σ ρ Q R S hT k => ⟨i, j, rfl, rfl, h, by show R (V.int (i ^ j.toNat)) H; rw [hn]; exact k _ _ F H ρ (.refl _ _) S (.int n) hT⟩⟩
def fRep : F2 := fun x y Q => match x, y with
  | .lst xs, .int k => 0 ≤ k ∧ k ≤ 1000 ∧ xs.length ≤ 1000 ∧ Q (.lst (List.replicate k.toNat xs).flatten)
  | _, _ => False
theorem Reps.rep {K : PySem.W.Frag} {F : Hp} {vs : List V} {ds : List D} (h : Reps K F vs ds) : ∀ n : Nat, Reps K F (List.replicate n vs).flatten (List.replicate n ds).flatten
  | 0 => .nil
  | n + 1 => by
    rw [List.replicate_succ, List.replicate_succ, List.flatten_cons, List.flatten_cons]
    exact h.append (Reps.rep h n)
theorem ppe_rep (ha : PPE X a ta Ta) (hb : PPE X b tb Tb) : PPE X (.BinOp a .Mult b pos) (tOp rRep ta tb) (pOp fRep Ta Tb) := ppe_op op_rep (fun F H x y dx dy Q R hs rx ry hf k => by
  cases rx with
  | @lst a vs xs h1 r1 =>
    cases ry with
    | int n =>
      obtain ⟨f1, f2, f3, f4⟩ := hf
      refine ⟨_, _, _, rfl, rfl, hs _ _ h1, by omega, by omega, ?_, fun p hp => ?_⟩
      · have e1 : vs.length ≤ 1000 := by rw [r1.length]; exact f3
        have e2 : n.toNat ≤ 1000 := by omega
        exact Nat.le_trans (Nat.mul_le_mul e1 e2) (by decide)
      · have hn : F p = none := hs.free hp
        exact k _ _ _ _ (.new hp (.lst upd_same ((r1.mono (same_new hn)).rep n.toNat))) f4
    | _ => exact hf.elim
  | _ => exact hf.elim) ha hb
def fNeg : F1 := fun x Q => match x with
  | .int i => Q (.int (-i))
  | _ => False
theorem ppe_neg (ha : PPE X a ta Ta) : PPE X (.UnaryOp .USub a pos) (tUn (rU fun i => .int (-i)) ta) (pUn fNeg Ta) := ppe_un un_neg (fun F H x dx Q R hs rx hf k => by
  cases rx with
  | int i => exact ⟨i, rfl, k _ _ _ _ (.old (.int _)) hf⟩
  | _ => exact hf.elim) ha
mutual
def toPy : D → PyData
  | .non => .none
  | .bl b => .bool b
  | .int i => .int i
  | .str x => .str x
  | .lst xs => .list (toPys xs)
  | .tup xs => .tuple (toPys xs)
  | .scr ns => .list (ns.map PyData.int)
  | .adr _ => .dict []
  | .exc _ _ => .dict []
def toPys : List D → List PyData
  | [] => []
  | x :: xs => toPy x :: toPys xs
end
theorem dp_ints {K : PySem.W.Frag} {H : Hp} : ∀ ns : List Int, DpAll K H (ns.map V.int) (ns.map PyData.int)
  | [] => .nil
  | n :: ns => .cons (.int n) (dp_ints ns)
mutual
theorem Rep.dp0 {K : PySem.W.Frag} {F H : Hp} (e : Same F H) : ∀ {v : V} {d : D}, Rep K F v d → PyData.canLay0 (toPy d) = true → Dp K H v (toPy d)
  | _, _, .non, _ => by rw [toPy]; exact .non
  | _, _, .bl b, _ => by rw [toPy]; exact .bl b
  | _, _, .int i, _ => by rw [toPy]; exact .int i
  | _, _, .str x, _ => by rw [toPy]; exact .str x
  | _, _, .lst h r, c => by
    rw [toPy] at c ⊢
    rw [PyData.canLay0] at c
    exact .lst (SqL.of (e _ _ h)) (Reps.dp0 e r c)
  | _, _, .tup h r, c => by
    rw [toPy] at c ⊢
    rw [PyData.canLay0] at c
    exact .tup (SqT.of (e _ _ h)) (Reps.dp0 e r c)
  | _, _, .scr h, _ => by rw [toPy]; exact .lst (e.seq h) (dp_ints _)
  | _, _, .adr _, c => by rw [toPy, PyData.canLay0] at c; cases c
  | _, _, .exc _ _ _ _, c => by rw [toPy, PyData.canLay0] at c; cases c
theorem Reps.dp0 {K : PySem.W.Frag} {F H : Hp} (e : Same F H) : ∀ {vs : List V} {ds : List D}, Reps K F vs ds → PyData.canLayAll0 (toPys ds) = true → DpAll K H vs (toPys ds)
  | _, _, .nil, _ => by rw [toPys]; exact .nil
  | _, _, .cons h r, c => by
    rw [toPys] at c ⊢
    rw [PyData.canLayAll0, Bool.and_eq_true] at c
    exact .cons (Rep.dp0 e h c.1) (Reps.dp0 e r c.2)
end
theorem shaped_lay {d : PyData} (h : SeqAt.shaped d = true) : PyData.canLay0 d = true := by
  unfold SeqAt.shaped at h
  rw [Bool.and_eq_true] at h
  exact h.1
theorem Rep.dp {K : PySem.W.Frag} {F H : Hp} (e : Same F H) {v : V} {d : D} (r : Rep K F v d) (h : SeqAt.shaped (toPy d) = true) : Dp K H v (toPy d) := r.dp0 e (shaped_lay h)
def D.eqv (x y : D) : Bool := PyData.eqv (toPy x) (toPy y)
def D.sh (x : D) : Prop := SeqAt.shaped (toPy x) = true
def fEq : F2 := fun x y Q => x.sh ∧ y.sh ∧ Q (.bl (x.eqv y))
def fNe : F2 := fun x y Q => x.sh ∧ y.sh ∧ Q (.bl (!x.eqv y))
theorem opp_eq : OpP X.K (rEqD X.K) fEq := fun F H x y dx dy Q R hs rx ry hf k => ⟨_, _, rx.dp hs hf.1, ry.dp hs hf.2.1, hf.1, hf.2.1, k _ _ _ _ (.old (.bl _)) hf.2.2⟩
theorem opp_ne : OpP X.K (rNeD X.K) fNe := fun F H x y dx dy Q R hs rx ry hf k => ⟨_, _, rx.dp hs hf.1, ry.dp hs hf.2.1, hf.1, hf.2.1, k _ _ _ _ (.old (.bl _)) hf.2.2⟩
def fLt : F2 := f2I0 fun i j => .bl (decide (i < j))
def fGt : F2 := f2I0 fun i j => .bl (decide (j < i))
def fGe : F2 := f2I0 fun i j => .bl (decide (j ≤ i))
def D.isNon : D → Bool
  | .non => true
  | _ => false
def fIsN : F2 := fun x y Q => match y with | .non => Q (.bl x.isNon) | _ => False
theorem ite_t {A B : Prop} (h : if true = true then A else B) : A := by simpa using h
theorem ite_f {A B : Prop} (h : if false = true then A else B) : B := by simpa using h
theorem ite_ti {A B : Prop} (h : A) : if true = true then A else B := by simpa using h
theorem ite_fi {A B : Prop} (h : B) : if false = true then A else B := by simpa using h
structure Cmp (X : Cx) (op : CmpOp) (r : R2) (f : F2) : Prop where
  op : OpR X (compareOp op) r
  pp : OpP X.K r f
theorem cm_lt : Cmp X .Lt (rI0 fun i j => .bl (decide (i < j))) fLt := ⟨op_lt, opp_I0 fun _ _ _ => .bl _⟩
theorem cm_gt : Cmp X .Gt (rI0 fun i j => .bl (decide (j < i))) fGt := ⟨op_gt, opp_I0 fun _ _ _ => .bl _⟩
theorem cm_ge : Cmp X .GtE (rI0 fun i j => .bl (decide (j ≤ i))) fGe := ⟨op_ge, opp_I0 fun _ _ _ => .bl _⟩
theorem cm_eq (hu : X.A.units + 64 < cLine) : Cmp X .Eq (rEqD X.K) fEq := ⟨op_eqD hu, opp_eq⟩
theorem cm_ne (hu : X.A.units + 64 < cLine) : Cmp X .NotEq (rNeD X.K) fNe := ⟨op_neD hu, opp_ne⟩
theorem dec_non {K : PySem.W.Frag} {F : Hp} {v : V} {d : D} (r : Rep K F v d) : decide (v = .non) = d.isNon := by
  cases r <;> rfl
theorem cm_isN : Cmp X .Is (fun x y H Q => y = .non ∧ Q (.bl (decide (x = .non))) H) fIsN := ⟨op_isN, fun F H x y dx dy Q R hs rx ry hf k => by
  cases ry with
  | non => exact ⟨rfl, by rw [dec_non rx]; exact k _ _ _ _ (.old (.bl _)) hf⟩
  | _ => exact hf.elim⟩
theorem ppe_cmp {op : CmpOp} {r : R2} {f : F2} (hc : Cmp X op r f) (ha : PPE X a ta Ta) (hb : PPE X b tb Tb) (hm : behindInMarks op b = false) : PPE X (.Compare a [op] [b] pos) (tOp r ta tb) (pOp f Ta Tb) := ⟨pe_cmpR hc.op ha.pe hb.pe hm, snd_op hc.pp ha.snd hb.snd⟩
def pTest (T : TEp) : TTp := fun ρ Q => T ρ fun x ρ' => match x with | .bl k => Q k ρ' | _ => False
theorem snd_test {K : PySem.W.Frag} {t : TE} {T : TEp} (h : SndE K t T) : SndT K (tTest t) (pTest T) := fun G F H σ ρ Q R S hT k => h G F H σ ρ _ _ S hT fun v d F' H' ρ' u S' r q => by
  cases r with
  | bl b => exact ⟨b, rfl, k b F' H' ρ' u S' q⟩
  | _ => exact q.elim
theorem ppt_cmp {op : CmpOp} {r : R2} {f : F2} (hc : Cmp X op r f) (ha : PPE X a ta Ta) (hb : PPE X b tb Tb) (hm : behindInMarks op b = false) : PPT X (.Compare a [op] [b] pos) (tTest (tOp r ta tb)) (pTest (pOp f Ta Tb)) := ⟨pt_cmpR hc.op ha.pe hb.pe hm, snd_test (snd_op hc.pp ha.snd hb.snd)⟩
theorem ppt_val {e : Expr} {t : TE} {T : TEp} (h : PPE X e t T) (he : ∀ whole, isTrue e X.env whole = (do let v ← whole; standAt e.pos; holding [v] (truthy v)) := by intro _; rfl) : PPT X e (tB t) (pTest T) := ⟨pt_val h.pe he, snd_test h.snd⟩
variable {tA tB' : TT} {TA' TB' : TTp} {rest : List Expr}
def pOr (T U : TTp) : TTp := fun ρ Q => T ρ fun c ρ1 => if c = true then Q true ρ1 else U ρ1 Q
def pNot (T : TTp) : TTp := fun ρ Q => T ρ fun c ρ1 => Q (!c) ρ1
theorem ppw_or1 (ha : PPT X a tA TA') : PPW X (.BoolOp .Or [a] pos) tA TA' := ⟨pw_or1 ha.pt, ha.snd⟩
theorem ppw_or (ha : PPT X a tA TA') (hb : PPW X (.BoolOp .Or (b :: rest) pos) tB' TB') : PPW X (.BoolOp .Or (a :: b :: rest) pos) (tOr tA tB') (pOr TA' TB') := ⟨pw_or ha.pt hb.pw, fun G F H σ ρ Q R S hT k =>
  ha.snd G F H σ ρ _ _ S hT fun c F1 H1 ρ1 u1 S1 h1 => by
    cases c with
    | false => have h1 := ite_f h1; refine ite_fi ?_; exact hb.snd G F1 H1 σ ρ1 _ _ S1 h1 fun b F2 H2 ρ2 u2 S2 h2 => k b F2 H2 ρ2 (u1.trans u2) S2 h2
    | true => have h1 := ite_t h1; refine ite_ti ?_; exact k _ F1 H1 ρ1 u1 S1 h1⟩
theorem PPW.ppt {e : Expr} {t : TT} {T : TTp} (h : PPW X e t T) : PPT X e t T := ⟨h.pw.pt, h.snd⟩
theorem ppt_not (ha : PPT X a tA TA') : PPT X (.UnaryOp .Not a pos) (tNot tA) (pNot TA') := ⟨pt_not ha.pt, fun G F H σ ρ Q R S hT k => ha.snd G F H σ ρ _ _ S hT fun c F1 H1 ρ1 u1 S1 h1 => k _ F1 H1 ρ1 u1 S1 h1⟩
def pAndV (Ta Tb : TEp) : TEp := fun ρ Q => Ta ρ fun x ρ1 => match x with | .bl c => if c = true then Tb ρ1 Q else Q (.bl false) ρ1 | _ => False
def pOrV (Ta Tb : TEp) : TEp := fun ρ Q => Ta ρ fun x ρ1 => match x with | .bl c => if c = true then Q (.bl true) ρ1 else Tb ρ1 Q | _ => False
def pNotV (Ta : TEp) : TEp := fun ρ Q => Ta ρ fun x ρ1 => match x with | .bl c => Q (.bl (!c)) ρ1 | _ => False
theorem ppe_one {op} (h : PPE X a ta Ta) : PPE X (.BoolOp op [a] pos) ta Ta := ⟨pe_one h.pe, h.snd⟩
theorem ppe_and (ha : PPE X a ta Ta) (hb : PPE X (.BoolOp .And (b :: rest) pos) tb Tb) : PPE X (.BoolOp .And (a :: b :: rest) pos) (tAndV ta tb) (pAndV Ta Tb) := ⟨pe_and ha.pe hb.pe, fun G F H σ ρ Q R S hT k =>
  ha.snd G F H σ ρ _ _ S hT fun x dx F1 H1 ρ1 u1 S1 r1 h1 => by
    cases r1 with
    | bl c =>
      refine ⟨c, rfl, ?_⟩
      cases c with
      | true => have h1 := ite_t h1; refine ite_ti ?_; exact hb.snd G F1 H1 σ ρ1 _ _ S1 h1 fun v d F2 H2 ρ2 u2 S2 r2 h2 => k v d F2 H2 ρ2 (u1.trans u2) S2 r2 h2
      | false => have h1 := ite_f h1; refine ite_fi ?_; exact k _ _ F1 H1 ρ1 u1 S1 (.bl _) h1
    | _ => exact h1.elim⟩
theorem ppe_or (ha : PPE X a ta Ta) (hb : PPE X (.BoolOp .Or (b :: rest) pos) tb Tb) : PPE X (.BoolOp .Or (a :: b :: rest) pos) (tOrV ta tb) (pOrV Ta Tb) := ⟨pe_or ha.pe hb.pe, fun G F H σ ρ Q R S hT k =>
  ha.snd G F H σ ρ _ _ S hT fun x dx F1 H1 ρ1 u1 S1 r1 h1 => by
    cases r1 with
    | bl c =>
      refine ⟨c, rfl, ?_⟩
      cases c with
      | false => have h1 := ite_f h1; refine ite_fi ?_; exact hb.snd G F1 H1 σ ρ1 _ _ S1 h1 fun v d F2 H2 ρ2 u2 S2 r2 h2 => k v d F2 H2 ρ2 (u1.trans u2) S2 r2 h2
      | true => have h1 := ite_t h1; refine ite_ti ?_; exact k _ _ F1 H1 ρ1 u1 S1 (.bl _) h1
    | _ => exact h1.elim⟩
theorem ppe_not (ha : PPE X a ta Ta) : PPE X (.UnaryOp .Not a pos) (tNotV ta) (pNotV Ta) := ⟨pe_not ha.pe, fun G F H σ ρ Q R S hT k =>
  ha.snd G F H σ ρ _ _ S hT fun x dx F1 H1 ρ1 u1 S1 r1 h1 => by
    cases r1 with
    | bl c => exact ⟨c, rfl, k _ _ F1 H1 ρ1 u1 S1 (.bl _) h1⟩
    | _ => exact h1.elim⟩
def pIf (T : TTp) (Ta Tb : TEp) : TEp := fun ρ Q => T ρ fun c ρ1 => if c = true then Ta ρ1 Q else Tb ρ1 Q
theorem ppe_ifExp {c : Expr} (hc : PPT X c tA TA') (ha : PPE X a ta Ta) (hb : PPE X b tb Tb) : PPE X (.IfExp c a b pos) (tIf tA ta tb) (pIf TA' Ta Tb) := ⟨pe_ifExp hc.pt ha.pe hb.pe, fun G F H σ ρ Q R S hT k =>
  hc.snd G F H σ ρ _ _ S hT fun c F1 H1 ρ1 u1 S1 h1 => by
    cases c with
    | true => have h1 := ite_t h1; refine ite_ti ?_; exact ha.snd G F1 H1 σ ρ1 _ _ S1 h1 fun v d F2 H2 ρ2 u2 S2 r2 h2 => k v d F2 H2 ρ2 (u1.trans u2) S2 r2 h2
    | false => have h1 := ite_f h1; refine ite_fi ?_; exact hb.snd G F1 H1 σ ρ1 _ _ S1 h1 fun v d F2 H2 ρ2 u2 S2 r2 h2 => k v d F2 H2 ρ2 (u1.trans u2) S2 r2 h2⟩
variable {e : Expr} {es : List Expr} {te : TE} {Te : TEp} {t : TA} {T : TAp}
def pNil : TAp := fun ρ Q => Q [] ρ
def pCons (Ta : TEp) (Tr : TAp) : TAp := fun ρ Q => Ta ρ fun x ρ1 => Tr ρ1 fun xs ρ2 => Q (x :: xs) ρ2
theorem ppa_nil : PPA X [] tNil pNil := ⟨pa_nil, fun G F H σ ρ Q R S hT k => k _ _ F H ρ (.refl _ _) S .nil hT⟩
theorem ppa_cons (ha : PPE X e te Te) (hr : PPA X es t T) (hs : starEach (e :: es) X.env = (false, eval e X.env) :: starEach es X.env := by rfl) : PPA X (e :: es) (tCons te t) (pCons Te T) := ⟨pa_cons ha.pe hr.pa hs, fun G F H σ ρ Q R S hT k =>
  ha.snd G F H σ ρ _ _ S hT fun v d F1 H1 ρ1 u1 S1 r1 h1 => hr.snd G F1 H1 σ ρ1 _ _ S1 h1 fun vs ds F2 H2 ρ2 u2 S2 r2 h2 => k _ _ F2 H2 ρ2 (u1.trans u2) S2 (.cons (r1.mono u2.ex) r2) h2⟩
def pTup (T : TAp) : TEp := fun ρ Q => T ρ fun xs ρ1 => xs.length ≤ sizeLine ∧ Q (.tup xs) ρ1
theorem ppe_tup {x1} (h : PPA X es t T) : PPE X (.Tuple es x1 pos) (tTup t) (pTup T) := ⟨pe_tup h.pa, fun G F H σ ρ Q R S hT k =>
  h.snd G F H σ ρ _ _ S hT fun vs ds F1 H1 ρ1 u1 S1 r1 h1 => ⟨by rw [r1.length]; exact h1.1, fun p hp => k _ _ _ _ ρ1 (u1.trans (S1.upNew hp)) (S1.new hp) (.tup upd_same (r1.mono (same_new (S1.freshF hp)))) h1.2⟩⟩
def pLst (T : TAp) : TEp := fun ρ Q => T ρ fun xs ρ1 => xs.length ≤ sizeLine ∧ Q (.lst xs) ρ1
theorem ppe_lst (h : PPA X es t T) : PPE X (.List es pos) (tLst t) (pLst T) := ⟨pe_lst h.pa, fun G F H σ ρ Q R S hT k =>
  h.snd G F H σ ρ _ _ S hT fun vs ds F1 H1 ρ1 u1 S1 r1 h1 => ⟨by rw [r1.length]; exact h1.1, fun p hp => k _ _ _ _ ρ1 (u1.trans (S1.upNew hp)) (S1.new hp) (.lst upd_same (r1.mono (same_new (S1.freshF hp)))) h1.2⟩⟩
def pLstO (T : TAp) : TCp := fun ρ Q => T ρ fun xs ρ1 => xs.length ≤ sizeLine ∧ ∀ a, Q (.own a xs) ρ1
theorem Sim.newOwn {K : PySem.W.Frag} {G F H : Hp} {σ : L2.St} {ρ : Ro} (S : Sim K G F H σ ρ) {p : Addr} {vs : List V} {xs : List D} (h : H p = none) (r : Reps K F vs xs) : Sim K G F (upd H p (.lst vs)) (σ ++ [some (.ref p)]) (ρ ++ [some (.own p xs)]) :=
  (S.more h).pushOwn upd_same (S.freshF h) (S.freshG h) (S.notOwn h) r
theorem ppc_lst (h : PPA X es t T) : PPC X (.List es pos) (tLst t) (pLstO T) := ⟨pe_lst h.pa, fun G F H σ ρ Q R S hT k =>
  h.snd G F H σ ρ _ _ S hT fun vs ds F1 H1 ρ1 u1 S1 r1 h1 => ⟨by rw [r1.length]; exact h1.1, fun p hp => k _ _ _ _ ρ1 u1 (S1.newOwn hp r1) (h1.2 p)⟩⟩
def pCB (f : List D → (D → Prop) → Prop) (T : TAp) : TEp := fun ρ Q => T ρ fun xs ρ1 => f xs fun z => Q z ρ1
theorem snd_cb {K : PySem.W.Frag} {r : List V → Hp → VK → Prop} {f : List D → (D → Prop) → Prop} (hp : CallP K r f) (h : SndA K t T) : SndE K (tCB r t) (pCB f T) := fun G F H σ ρ Q R S hT k =>
  h G F H σ ρ _ _ S hT fun vs ds F1 H1 ρ1 u1 S1 r1 h1 => hp F1 H1 vs ds _ _ S1.hF r1 h1 fun v d F2 H2 res q => by
    obtain ⟨u2, S2, r2⟩ := S1.res res
    exact k v d F2 H2 ρ1 (u1.trans u2) S2 r2 q
theorem ppe_callB {x : Str} {p : Pos} {id : String} {r : List V → Hp → VK → Prop} {f : List D → (D → Prop) → Prop} (hc : CallR X (.builtin id) r) (hp : CallP X.K r f) (hg : Gl X x) (hm : X.mg x = none) (hv : bootBuiltins x = some (.builtin id)) (ha : PPA X (e :: es) t T)
    (hn : x ≠ "__name__" := by decide) (hdb : (x == ("__debug__" : Str)) = false := by decide)
    (he : starEach (e :: es) X.env = (false, eval e X.env) :: starEach es X.env := by rfl) (hpl : (backTo pos (starEach es X.env)).any (·.1) = false := by rfl) : PPE X (.Call (.Name x p) (e :: es) [] pos) (tCB r t) (pCB f T) := ⟨pe_callB hc hg hm hv ha.pa hn hdb he hpl, snd_cb hp ha.snd⟩
theorem ppe_callTy {x : Str} {p : Pos} {id : String} {r : List V → Hp → VK → Prop} {f : List D → (D → Prop) → Prop} (hc : CallR X (.type id) r) (hp : CallP X.K r f) (hg : Gl X x) (hm : X.mg x = none) (hv : bootBuiltins x = some (.type id)) (ha : PPA X (e :: es) t T)
    (hn : x ≠ "__name__" := by decide) (hdb : (x == ("__debug__" : Str)) = false := by decide)
    (he : starEach (e :: es) X.env = (false, eval e X.env) :: starEach es X.env := by rfl) (hpl : (backTo pos (starEach es X.env)).any (·.1) = false := by rfl) : PPE X (.Call (.Name x p) (e :: es) [] pos) (tCB r t) (pCB f T) := ⟨pe_callTy hc hg hm hv ha.pa hn hdb he hpl, snd_cb hp ha.snd⟩
end
end Pl
namespace Pl
open PySem PySem.Spec PyProof.Rows L2
open PySem.W (AlikeAll minD maxD minD_ints maxD_ints min_list_data min_tuple_data max_list_data max_tuple_data min_list_default max_list_default)
theorem places_rev (n : Nat) : Builtin.Slice.slicePlaces ((n : Int) - 1) (-1) (-1) = n := by
  unfold Builtin.Slice.slicePlaces
  by_cases h : n = 0
  · subst h; rfl
  · first
    | (simp; omega)
    | (simp only [show ¬ ((-1 : Int) > 0) by decide, if_false]; split <;> omega)
theorem adjust_rev (n : Nat) : Builtin.Slice.sliceAdjust none none (-1) (n : Int) = ((n : Int) - 1, -1) := by
  first
  | rfl
  | simp [Builtin.Slice.sliceAdjust]
theorem pick_rev (xs : Array Value) : ((List.range xs.size).filterMap fun (m : Nat) => xs[(((xs.size : Int) - 1) + (m : Int) * (-1)).toNat]?).toArray = xs.toList.reverse.toArray := by
  have e : ((List.range xs.size).filterMap fun (m : Nat) => xs[(((xs.size : Int) - 1) + (m : Int) * (-1)).toNat]?) = ((List.range xs.size).map fun k => xs.size - 1 - k).filterMap (xs[·]?) := by
    rw [List.filterMap_map]
    have g : ∀ l : List Nat, (l.filterMap fun (m : Nat) => xs[(((xs.size : Int) - 1) + (m : Int) * (-1)).toNat]?) = l.filterMap ((fun x => xs[x]?) ∘ fun k => xs.size - 1 - k) := fun l => by
      congr 1
      funext m
      show xs[(((xs.size : Int) - 1) + (m : Int) * (-1)).toNat]? = xs[xs.size - 1 - m]?
      rw [show (((xs.size : Int) - 1) + (m : Int) * (-1)).toNat = xs.size - 1 - m by omega]
    exact g _
  rw [e, PySem.W.krv_range, List.filterMap_reverse, PySem.W.krv_all]
section
variable {prog : Program} {w : World} {A : Around} {E : Value → Shared → Prop} {s : Shared}
theorem getItem_tuple_rev {t sl : Addr} {items : Array Value} {vl vu vs : Value} {Q : Value → Shared → Prop} (ht : IsTup s.heap t items) (hs : s.heap.IsSliceOf sl vl vu vs) (pl : IsPart vl none) (pu : IsPart vu none) (ps : IsPart vs (some (-1)))
    (h : Q (.ref s.heap.objs.size) { s with heap := s.heap.push { cls := .type "tuple", data := .seq items.toList.reverse.toArray } })
    (hsz : items.size ≤ sizeLine) : wpAny (model prog w) A (getItem (.ref t) (.ref sl)) Q E s := by
  have htake : sizeOk (.seq items.toList.reverse.toArray) := by
    show items.toList.reverse.toArray.size ≤ sizeLine
    rw [List.size_toArray, List.length_reverse, Array.length_toList]
    omega
  obtain ⟨os, hos, hcs, hds⟩ := id hs
  have hTs : s.TypeIs (.ref sl) "slice" := ⟨os, hos, hcs⟩
  unfold getItem
  try with_reducible refine wpAny_holding ?_
  first | refine wpAny_bind (wpAny_pure ?_) | skip
  refine wpAny_bind (wpAny_sequenceKey ht.typeIs (by decide) ?_)
  refine wpAny_bind (wpAny_callSpecial?_slot (name := Str.ofString "__getitem__") ht.typeIs PyProof.Rows.slot_tuple_getitem
    (wpAny_call_entry PyProof.Rows.slot_tuple_getitem ht.typeIs entry_tuple_getitem ?_ (args_tuple_getitem _ _)))
  show wpAny _ _ (Builtin.Tuple.tupleItemsOf (.ref t) >>= _) _ _ s
  refine wpAny_bind (tupleItemsOf_ ht ?_)
  refine wpAny_bind (wpAny_typeOf hTs ?_)
  rw [if_pos (by decide)]
  have applied : ∀ {Q : Int × Int × Nat → Shared → Prop} {A' : Around} {E' : Value → Shared → Prop}, Q ((items.size : Int) - 1, -1, items.size) s → wpAny (model prog w) A' (Builtin.Slice.sliceApplied (.ref sl) (pure (items.size : Int))) Q E' s := by
    intro Q A' E' h
    unfold Builtin.Slice.sliceApplied Builtin.Slice.sliceFields
    refine wpAny_bind (wpAny_bind (wpAny_field hos hds (x := vl) rfl (wpAny_bind (wpAny_field hos hds (x := vu) rfl (wpAny_bind (wpAny_field hos hds (x := vs) rfl (wpAny_pure ?_)))))))
    refine wpAny_bind (HT.slicePart_ ps ?_)
    show wpAny _ _ (if ((-1 : Int) == 0) = true then _ else _) _ _ s
    rw [if_neg (by decide)]
    refine wpAny_bind (HT.slicePart_ pl (wpAny_bind (HT.slicePart_ pu (wpAny_bind (wpAny_pure ?_)))))
    show wpAny _ _ (match Builtin.Slice.sliceAdjust none none (-1) (items.size : Int) with | (lo, hi) => pure (lo, (-1 : Int), Builtin.Slice.slicePlaces lo hi (-1))) _ _ s
    rw [adjust_rev]
    show wpAny _ _ (pure ((items.size : Int) - 1, (-1 : Int), Builtin.Slice.slicePlaces ((items.size : Int) - 1) (-1) (-1))) _ _ s
    rw [places_rev]
    exact wpAny_pure h
  refine wpAny_bind (applied ?_)
  have hno : ¬ ((((items.size : Int) - 1) == 0 && (-1 : Int) == 1 && items.size == items.size) = true) := by
    intro q
    rw [Bool.and_eq_true, Bool.and_eq_true] at q
    exact absurd q.1.2 (by decide)
  show wpAny _ _ (if (((items.size : Int) - 1) == 0 && (-1 : Int) == 1 && items.size == items.size) = true then _ else _) _ _ s
  rw [if_neg hno, pick_rev]
  first
    | exact wpAny_bind (m := Builtin.Tuple.tupleExact _) (wpAny_newObj_type (wpAny_pure ⟨_, rfl, wpAny_pure h⟩) htake)
    | exact wpAny_bind (m := Builtin.Tuple.tupleExact _) (wpAny_newObj_type (wpAny_bind (wpAny_pure (wpAny_pure ⟨_, rfl, wpAny_pure h⟩))) htake)
    | exact wpAny_bind (wpAny_bind (m := Builtin.Tuple.tupleExact _) (wpAny_newObj_type (wpAny_pure (wpAny_pure ⟨_, rfl, wpAny_pure h⟩)) htake))
    | exact wpAny_bind (wpAny_bind (m := Builtin.Tuple.tupleExact _) (wpAny_newObj_type (wpAny_pure ⟨_, rfl, wpAny_pure h⟩) htake))
end
section
variable {X : Cx}
def tRevA (K : PySem.W.Frag) (te : TE) : TE := fun σ H Q => te σ H fun x H1 => ∃ a xs, x = .ref a ∧ ((SqL K H1 a xs ∧ ∀ p, H1 p = none → Q (.ref p) (upd H1 p (.lst xs.reverse))) ∨ (SqT K H1 a xs ∧ ∀ p, H1 p = none → Q (.ref p) (upd H1 p (.tup xs.reverse))))
theorem pe_revA {e : Expr} {te : TE} {k : Nat} {p1 p2 p3 pos : Pos} (he : PE X e te) : PE X (.Subscript e (.Slice none none (some (.UnaryOp .USub (.Constant (.int 1) k p1) p2)) p3) pos) (tRevA X.K te) := by
  refine ⟨fun pins s σ H Q I h => ?_⟩
  refine Subscript_ (thn (he.run pins s σ H _ I h) fun v s1 ⟨x, H1, I1, r1, q1⟩ => ?_)
  obtain ⟨a, xs, ex, hx⟩ := q1
  subst ex
  cases r1
  have hst : PO X (some (.UnaryOp .USub (.Constant (.int 1) k p1) p2)) (tPart (tUn (rU fun i => .int (-i)) (tC (.int 1)))) := po_some (pe_un un_neg pe_int)
  refine wpAny_Slice (thn (po_none.run pins s1 σ H1 (fun o H2 => o = none ∧ H2 = H1) I1 ⟨rfl, rfl⟩) fun vl s2 ⟨l, H2, I2, pl, el, e2⟩ => ?_)
  subst el e2
  refine thn (po_none.run pins s2 σ H2 (fun o H3 => o = none ∧ H3 = H2) I2 ⟨rfl, rfl⟩) fun vu s3 ⟨u, H3, I3, pu, eu, e3⟩ => ?_
  subst eu e3
  refine thn (hst.run pins s3 σ H3 (fun o H4 => o = some (-1) ∧ H4 = H3) I3 ⟨1, rfl, -1, rfl, rfl, rfl⟩) fun vs s4 ⟨o, H4, I4, ps, eo, e4⟩ => ?_
  subst eo e4
  have I5 : Inv X pins σ H4 { s4 with heap := s4.heap.push { cls := .type "slice", data := .fields #[vl, vu, vs] } } := I4.kept (t' := s4.toks) fun b ob q => Heap.get?_push_of_some _ q
  show wpAny (model X.prog X.w) X.A (subscriptTail e (.Slice none none (some (.UnaryOp .USub (.Constant (.int 1) k p1) p2)) p3) (.ref a) (.ref s4.heap.objs.size)) (EP X pins σ Q) X.xe { s4 with heap := s4.heap.push { cls := .type "slice", data := .fields #[vl, vu, vs] } }
  rcases hx with ⟨hx, q⟩ | ⟨hx, q⟩
  · obtain ⟨its, r, ht, hz⟩ := I5.list hx
    have hlen := r.length
    refine tail_any (ops := [.ref a, .ref s4.heap.objs.size]) ht.isList.typeIs (PySem.slot_list_getitem.lookup) ?_ (by with_unfolding_all rfl)
    refine wpAny_getItem_list_slice ht.isList (Heap.IsSliceOf.new _ vl vu vs) pl pu ps (by decide) ?_ (by rw [List.size_toArray]; omega)
    rw [PySem.W.krv_pick]
    refine ⟨.ref _, _, I5.laid (t' := s4.toks) (o := .lst xs.reverse) (fun b ob q => Heap.get?_push_of_some _ q) (Nat.le_refl _) ?_, rfl, q _ (I5.hok.fresh (Nat.le_refl _))⟩
    exact ⟨by rw [List.length_reverse]; exact hz, _, 0, r.reverse, Heap.get?_push_size _ rfl⟩
  · obtain ⟨its, r, ht, hz⟩ := I5.tuple hx
    have hlen := r.length
    refine tail_any (ops := [.ref a, .ref s4.heap.objs.size]) ht.typeIs (PyProof.Rows.slot_tuple_getitem.lookup) ?_ (by with_unfolding_all rfl)
    refine getItem_tuple_rev ht (Heap.IsSliceOf.new _ vl vu vs) pl pu ps ?_ (by rw [List.size_toArray]; omega)
    refine ⟨.ref _, _, I5.laid (t' := s4.toks) (o := .tup xs.reverse) (fun b ob q => Heap.get?_push_of_some _ q) (Nat.le_refl _) ?_, rfl, q _ (I5.hok.fresh (Nat.le_refl _))⟩
    exact ⟨by rw [List.length_reverse]; exact hz, _, r.reverse, ⟨_, Heap.get?_push_size _ rfl, rfl, _, rfl⟩⟩
end
end Pl
namespace Pl
open PySem PySem.Spec PyProof.Rows L2
def SqK (K : PySem.W.Frag) (k : Bool) (H : Hp) (a : Addr) (xs : List V) : Prop := match k with
  | true => SqL K H a xs
  | false => SqT K H a xs
def ItK (k : Bool) (h : Heap) (it a : Addr) (i : Nat) : Prop := match k with
  | true => h.IsListIter it a i
  | false => h.IsTupleIter it a i
def IsK (k : Bool) (h : Heap) (a : Addr) (items : Array Value) : Prop := match k with
  | true => h.IsList a items
  | false => h.IsTuple a items
def objK (k : Bool) (l : Addr) : Obj := match k with
  | true => { cls := .type "list_iterator", data := .fields #[.ref l, .int 0 0] }
  | false => { cls := .type "tuple_iterator", data := .fields #[.ref l, .int 0 0] }
theorem drawsK {prog : Program} {w : World} {A : Around} (hh : A.handled = none) (k : Bool) (it l : Addr) (hne : l ≠ it) (items : Array Value) :
    Draws prog w A it [it, l] items.size (fun i v => items[i]? = some v) (fun i h => ItK k h it l i ∧ IsK k h l items) := by
  cases k with
  | true => exact Draws.list hh it l hne items
  | false => exact Draws.tuple hh it l hne items
theorem beginsK (k : Bool) (l : Addr) (items : Array Value) : Begins (.ref l) (objK k l) fun h => IsK k h l items := by
  cases k with
  | true => exact begins_list l items
  | false => exact begins_tuple l items
theorem itK_new {k : Bool} {h : Heap} {it l : Addr} (e : h.get? it = some (objK k l)) : ItK k h it l 0 := by
  cases k with
  | true => exact ⟨_, e, rfl, rfl⟩
  | false => exact ⟨_, e, rfl, rfl⟩
theorem ItK.obj {k : Bool} {h : Heap} {it l : Addr} {i : Nat} (x : ItK k h it l i) : ∃ o, h.get? it = some o ∧ ∀ v, o.data ≠ .cell v := by
  cases k with
  | true => obtain ⟨o, e, _, d⟩ := x; exact ⟨o, e, fun v q => by rw [d] at q; cases q⟩
  | false => obtain ⟨o, e, _, d⟩ := x; exact ⟨o, e, fun v q => by rw [d] at q; cases q⟩
theorem ItK.at {k : Bool} {h h' : Heap} {it l : Addr} {i : Nat} (x : ItK k h it l i) (e : ∀ o, h.get? it = some o → h'.get? it = some o) : ItK k h' it l i := by
  cases k with
  | true => obtain ⟨o, q, r⟩ := x; exact ⟨o, e o q, r⟩
  | false => obtain ⟨o, q, r⟩ := x; exact ⟨o, e o q, r⟩
section
variable {X : Cx} {pins : List (Addr × Obj)} {σ : L2.St} {H : Hp} {s : Shared} {a : Addr} {xs ys : List V} {k : Bool}
theorem invK (I : Inv X pins σ H s) (h : SqK X.K k H a xs) : ∃ its : List Value, Vals xs its ∧ IsK k s.heap a its.toArray ∧ xs.length ≤ sizeLine ∧ a < s.heap.objs.size := by
  cases k with
  | true =>
    obtain ⟨its, r, p, z⟩ := I.list h
    exact ⟨its, r, p.isList, z, p.lt⟩
  | false =>
    obtain ⟨its, r, p, z⟩ := I.tuple h
    exact ⟨its, r, p, z, p.lt⟩
theorem invK_inj (I : Inv X pins σ H s) (h : SqK X.K k H a xs) (h' : SqK X.K k H a ys) : xs = ys := by
  cases k with
  | true => exact I.list_inj h h'
  | false => exact I.tuple_inj h h'
end
theorem SqK.mono {K : PySem.W.Frag} {k : Bool} {H H' : Hp} {a : Addr} {xs : List V} (e : Same H H') (h : SqK K k H a xs) : SqK K k H' a xs := by
  cases k with
  | true => exact e.seq h
  | false =>
    rcases h with (h | ⟨o, h⟩) | h
    · exact .inl (.inl (e _ _ h))
    · exact .inl (.inr ⟨o, e _ _ h⟩)
    · exact .inr h
theorem turn_goes {P : Program} {w : World} {K : PySem.W.Frag} {tg : Expr} {J : It} {fp : List Addr} {it : Addr} {tn : Nat → Heap → Prop}
    (mem : it ∈ fp) (obj : ∀ i h, tn i h → ∀ b ∈ fp, ∃ o, h.get? b = some o ∧ ∀ v, o.data ≠ .cell v) (keep : ∀ i h h', tn i h → (∀ b ∈ fp, ∀ o, h.get? b = some o → h'.get? b = some o) → tn i h')
    (go : ∀ (X : Cx), X.prog = P → X.w = w → X.K = K → X.calm = true → ∀ (i : Nat) (pins : List (Addr × Obj)) (s : Shared) (σ : L2.St) (H : Hp), Inv X pins σ H s → (∀ b ∈ fp, FpOk X pins H b) → tn i s.heap → (J.go i H ∨ J.stop i H) →
      ∃ (gfp wr : List Addr) (n : Nat) (Y : Nat → Heap → Value → Heap → Prop) (St : Nat → Heap → Prop), GoesN P w X.A tg it gfp wr n Y St ∧ St i s.heap ∧ (∀ b ∈ wr, b ∈ fp) ∧
        (J.go i H → i < n ∧ ∀ v h', Y i s.heap v h' → St (i + 1) h' → (∀ b o, b ∉ wr → s.heap.get? b = some o → h'.get? b = some o) →
          tn (i + 1) h' ∧ ∃ T ob, v = .ref T ∧ s.heap.objs.size ≤ T ∧ ObjOk P w (upd H T ob) h' T ob ∧ J.yld i H (.ref T) (upd H T ob)) ∧ (J.stop i H → i = n))
    (self : ∀ (A : Around) (i : Nat) (s : Shared) (Q : Value → Shared → Prop) (E : Value → Shared → Prop), tn i s.heap → Q (.ref it) s → wpAny (model P w) A (pyIter (.ref it)) Q E s) : Turn P w K tg J fp it tn where
  mem := mem
  obj := obj
  keep := keep
  item := by
    intro X hP hw hK hc i pins s σ H E I hf st hg
    obtain ⟨gfp, wr, n, Y, St, W, hst, hsub, h1, _⟩ := go X hP hw hK hc i pins s σ H I hf st (.inl hg)
    obtain ⟨hlt, h2⟩ := h1 hg
    subst hP hw hK
    refine W.goes i s (fun u s2 => ∃ x H', Inv X pins σ H' s2 ∧ RelV x u ∧ J.yld i H x H' ∧ tn (i + 1) s2.heap ∧ ∀ b ∈ fp, H' b = none) E hlt hst fun v h' tk hY st' hk _ => ?_
    obtain ⟨ht, T, ob, rfl, hT, new, yl⟩ := h2 v h' hY st' hk
    have I1 : Inv X pins σ (upd H T ob) { s with heap := h', toks := tk } := I.turnedNew (ch := wr) hk (fun b hb => hf b (hsub b hb)) hT new
    refine ⟨.ref T, _, I1, rfl, yl, ht, fun b hb => ?_⟩
    obtain ⟨o, e, _⟩ := obj i s.heap st b hb
    rw [upd_ne (Nat.ne_of_lt (Nat.lt_of_lt_of_le (Heap.lt_size e) hT))]
    exact (hf b hb).1
  done := by
    intro X hP hw hK hc i pins s σ H E I hf st hg
    obtain ⟨gfp, wr, n, Y, St, W, hst, hsub, _, h2⟩ := go X hP hw hK hc i pins s σ H I hf st (.inr hg)
    subst hP hw hK
    have e := h2 hg
    subst e
    refine W.stops s (fun s1 => Inv X pins σ H s1) E hst fun h' tk hk _ => ?_
    exact I.turnedL hk fun b hb => hf b (hsub b hb)
  self := self
theorem tup_ok {P : Program} {w : World} {H : Hp} {h : Heap} {T : Addr} {xs : List V} {us : List Value} (r : Vals xs us) (ht : h.IsTuple T us.toArray) (hz : xs.length ≤ sizeLine) : ObjOk P w (upd H T (.tup xs)) h T (.tup xs) := ⟨hz, us, r, ht⟩
def ItZ2 (K : PySem.W.Frag) (k1 : Bool) (a : Addr) (k2 : Bool) (b : Addr) : It :=
  ⟨fun i H => ∃ (xs ys : List V) (x y : V), SqK K k1 H a xs ∧ SqK K k2 H b ys ∧ xs[i]? = some x ∧ ys[i]? = some y,
    fun i H v H' => ∃ T x y, v = .ref T ∧ H T = none ∧ H' = upd H T (.tup [x, y]) ∧ (∀ xs, SqK K k1 H a xs → xs[i]? = some x) ∧ ∀ ys, SqK K k2 H b ys → ys[i]? = some y,
    fun i H => ∃ xs ys : List V, SqK K k1 H a xs ∧ SqK K k2 H b ys ∧ i = min xs.length ys.length⟩
theorem turn_z2 {P : Program} {w : World} {K : PySem.W.Frag} {elts : List Expr} {kk : Nat} {tpos : Pos} {k1 k2 : Bool} {a b z TI TO i1 i2 : Addr} (S : ZipSep2 z TI TO i1 i2 [i1, a] [i2, b]) (hia : a ≠ i1) (hib : b ≠ i2) :
    Turn P w K (.Tuple elts kk tpos) (ItZ2 K k1 a k2 b) [z, TI, TO, i1, i2] z (fun i h => IsZip h z TI TO .none ∧ IsTupOf2 h TI (.ref i1) (.ref i2) ∧ (∃ a1 a2, IsTupOf2 h TO a1 a2) ∧ ItK k1 h i1 a i ∧ ItK k2 h i2 b i) := by
  refine turn_goes (by simp) (fun i h st c hc => ?_) (fun i h h' st k => ?_) (fun X hP hw hK hc i pins s σ H I hf st hg => ?_) fun A i s Q E st h => wpAny_pyIter_zip st.1 h
  · obtain ⟨hz, hTI, ⟨x, y, hTO⟩, h1, h2⟩ := st
    have e' : c = z ∨ c = TI ∨ c = TO ∨ c = i1 ∨ c = i2 := by simpa using hc
    rcases e' with q | q | q | q | q
    · rw [q]; exact ⟨_, hz, fun v q => nomatch q⟩
    · rw [q]; exact ⟨_, hTI, fun v q => nomatch q⟩
    · rw [q]; exact ⟨_, hTO, fun v q => nomatch q⟩
    · rw [q]; exact h1.obj
    · rw [q]; exact h2.obj
  · obtain ⟨hz, hTI, ⟨x, y, hTO⟩, h1, h2⟩ := st
    exact ⟨k z (by simp) _ hz, k TI (by simp) _ hTI, ⟨x, y, k TO (by simp) _ hTO⟩, h1.at fun o q => k i1 (by simp) o q, h2.at fun o q => k i2 (by simp) o q⟩
  · subst hP hw hK
    obtain ⟨hz, hTI, hTO, h1, h2⟩ := st
    have src : ∃ xs ys, SqK X.K k1 H a xs ∧ SqK X.K k2 H b ys := by
      rcases hg with ⟨xs, ys, _, _, p, q, _⟩ | ⟨xs, ys, p, q, _⟩
      · exact ⟨xs, ys, p, q⟩
      · exact ⟨xs, ys, p, q⟩
    obtain ⟨xs, ys, sx, sy⟩ := src
    obtain ⟨its, rv, p1, z1, _⟩ := invK I sx
    obtain ⟨its2, rv2, p2, z2, _⟩ := invK I sy
    have hh : X.A.in1.handled = none := I.ok.hd hc
    have l1 := rv.length
    have l2 := rv2.length
    refine ⟨_, _, _, _, _, GoesN.zip2 S (drawsK hh k1 i1 a hia its.toArray) (drawsK hh k2 i2 b hib its2.toArray), ⟨hz, hTI, hTO, ⟨h1, p1⟩, ⟨h2, p2⟩⟩, fun c hc => ?_, fun hgo => ⟨?_, fun v h' hY st' hk => ?_⟩, fun hs => ?_⟩
    · have e' : c = z ∨ c = TO ∨ c = i1 ∨ c = i2 := by simpa using hc
      rcases e' with q | q | q | q <;> simp [q]
    · obtain ⟨xs', ys', x, y, p, q, e1, e2⟩ := hgo
      have E1 := invK_inj I p sx
      have E2 := invK_inj I q sy
      subst E1 E2
      have g1 : i < xs'.length := by
        rcases Nat.lt_or_ge i xs'.length with g | g
        · exact g
        · rw [List.getElem?_eq_none g] at e1; cases e1
      have g2 : i < ys'.length := by
        rcases Nat.lt_or_ge i ys'.length with g | g
        · exact g
        · rw [List.getElem?_eq_none g] at e2; cases e2
      simp only [List.size_toArray]
      omega
    · obtain ⟨T, u, v', rfl, hT, hu, hv, htup⟩ := hY
      obtain ⟨hz', hTI', hTO', ⟨h1', _⟩, ⟨h2', _⟩⟩ := st'
      refine ⟨⟨hz', hTI', hTO', h1', h2'⟩, ?_⟩
      obtain ⟨xs', ys', x, y, p, q, e1, e2⟩ := hgo
      have E1 := invK_inj I p sx
      have E2 := invK_inj I q sy
      subst E1 E2
      obtain ⟨u', hu', ru⟩ := rv.get e1
      obtain ⟨w', hw', rw'⟩ := rv2.get e2
      have eu : u = u' := by
        have : its[i]? = some u := by simpa using hu
        rw [hu'] at this; exact (Option.some.inj this).symm
      have ev : v' = w' := by
        have : its2[i]? = some v' := by simpa using hv
        rw [hw'] at this; exact (Option.some.inj this).symm
      subst eu ev
      refine ⟨T, .tup [x, y], rfl, hT, tup_ok (us := [u, v']) (.cons ru (.cons rw' .nil)) htup (by show 2 ≤ sizeLine; decide), T, x, y, rfl, I.hok.fresh hT, rfl, fun l hl => by rw [invK_inj I hl p]; exact e1, fun l hl => by rw [invK_inj I hl q]; exact e2⟩
    · obtain ⟨xs', ys', p, q, e⟩ := hs
      have E1 := invK_inj I p sx
      have E2 := invK_inj I q sy
      subst E1 E2
      simp only [List.size_toArray]
      omega
def iZ2 (K : PySem.W.Frag) (ta : TA) : TI := fun σ H R => ta σ H fun vs H1 => ∃ k1 k2 a b xs ys, vs = [.ref a, .ref b] ∧ SqK K k1 H1 a xs ∧ SqK K k2 H1 b ys ∧ R (ItZ2 K k1 a k2 b) H1
theorem pi_z2 {X : Cx} {e e2 : Expr} {ta : TA} {p pos tpos : Pos} {elts : List Expr} {kk : Nat} (hg : Gl X "zip") (hm : X.mg "zip" = none) (ha : PA X [e, e2] ta)
    (hs : starEach [e, e2] X.env = (false, eval e X.env) :: starEach [e2] X.env := by rfl) (hpl : (backTo pos (starEach [e2] X.env)).any (·.1) = false := by rfl) :
    PI X (.Tuple elts kk tpos) (.Call (.Name "zip" p) [e, e2] [] pos) (iZ2 X.K ta) := by
  refine ⟨fun pins s σ H R I h => ?_⟩
  refine Call_ (ld_blt I hg hm PyProof.Rows.boot_zip (PyProof.Rows.callWith_type1 (thn (ha.run pos pins s σ H _ I h) fun us s1 ⟨vs, H1, I1, r1, q1⟩ => ?_) hs hpl))
  obtain ⟨k1, k2, a, b, xs, ys, ex, hqx, hqy, q⟩ := q1
  subst ex
  obtain ⟨u1, u2, rfl, ra, rb⟩ := vals2 r1
  cases ra
  cases rb
  obtain ⟨its, rv, p1, _, la⟩ := invK I1 hqx
  obtain ⟨its2, rv2, p2, _, lb⟩ := invK I1 hqy
  refine zip_begins2 (beginsK k1 a its.toArray) (beginsK k2 b its2.toArray) p1 p2 fun h' hz hTI hTO h1 h2 hsz hk => wpAny_pyIter_zip hz ?_
  have I2 : Inv X pins σ H1 { s1 with heap := h' } := I1.kept (t' := s1.toks) hk
  refine ⟨s1.heap.objs.size + 4, [s1.heap.objs.size + 4, s1.heap.objs.size + 2, s1.heap.objs.size + 3, s1.heap.objs.size, s1.heap.objs.size + 1], _, _, H1, rfl, I2,
    turn_z2 (zip_sep2 (fp1 := [a]) (fp2 := [b]) (fun c hc => by rw [List.mem_singleton.mp hc]; exact la) (fun c hc => by rw [List.mem_singleton.mp hc]; exact lb)) (Nat.ne_of_lt la) (Nat.ne_of_lt (Nat.lt_succ_of_lt lb)), ⟨hz, hTI, ⟨_, _, hTO⟩, itK_new h1, itK_new h2⟩, fun c hcm => ?_, q⟩
  have hle : s1.heap.objs.size ≤ c := by
    have e' : c = s1.heap.objs.size + 4 ∨ c = s1.heap.objs.size + 2 ∨ c = s1.heap.objs.size + 3 ∨ c = s1.heap.objs.size ∨ c = s1.heap.objs.size + 1 := by simpa using hcm
    rcases e' with z | z | z | z | z
    · rw [z]; exact Nat.le_add_right _ _
    · rw [z]; exact Nat.le_add_right _ _
    · rw [z]; exact Nat.le_add_right _ _
    · rw [z]; exact Nat.le_refl _
    · rw [z]; exact Nat.le_add_right _ _
  exact I1.fpOk hle (I1.hok.fresh hle)
theorem lt_of_get {α : Type} {l : List α} {i : Nat} {x : α} (e : l[i]? = some x) : i < l.length := by
  rcases Nat.lt_or_ge i l.length with g | g
  · exact g
  · rw [List.getElem?_eq_none g] at e; cases e
theorem same_get {its : List Value} {i : Nat} {u u' : Value} (h : its.toArray[i]? = some u) (h' : its[i]? = some u') : u = u' := by
  have : its[i]? = some u := by simpa using h
  rw [h'] at this; exact (Option.some.inj this).symm
set_option maxHeartbeats 1000000 in
theorem meets_enumerate_new1 {v : Value} {o : Obj} {H : Heap → Prop} (B : Begins v o H) :
    Meets (Builtin.«enumerate.__new__» ⟨[.type "enumerate", v], []⟩) (fun _ R s => H s.heap ∧
      R (.ok (.ret (.ref (s.heap.push o).objs.size))) { s with heap := (s.heap.push o).push { cls := .type "enumerate", data := .fields #[.none, .bool false, .ref s.heap.objs.size, rawInt 0, .none, .none] } }) :=
  .of_wp fun prog w A R s h => by
    obtain ⟨hp, g, d, tk, os⟩ := s; obtain ⟨h1, h⟩ := h
    have hsub := sub_enumerate
    have q1 : ∀ {A' : Around} {E : Value → Shared → Prop} {Q : Value → Shared → Prop}, Q (.ref hp.objs.size) ⟨hp.push o, g, d, tk, os⟩ → wpAny (model prog w) A' (pyIter v) Q E ⟨hp, g, d, tk, os⟩ :=
      fun q => B.iter prog w _ _ ⟨hp, g, d, tk, os⟩ _ h1 q
    wp_walk using q1
    refine wpAny_stack_any fun st => wpAny_pure ?_
    split
    · rename_i c _ _ _ _ _
      cases (c == Value.type "enumerate")
      · wp_walk using q1
        exact ⟨_, rfl, h⟩
      · wp_walk using q1
        exact ⟨_, rfl, h⟩
    · wp_walk using q1
      exact ⟨_, rfl, h⟩
theorem enum_begins1 {prog : Program} {w : World} {A : Around} {E : Value → Shared → Prop} {s : Shared} {v : Value} {o : Obj} {H : Heap → Prop} {Q : Value → Shared → Prop} (B : Begins v o H) (h1 : H s.heap)
    (h : ∀ h', IsEnum h' (s.heap.objs.size + 1) s.heap.objs.size 0 .none → h'.get? s.heap.objs.size = some o → h'.objs.size = s.heap.objs.size + 2 →
      (∀ b o, s.heap.get? b = some o → h'.get? b = some o) → Q (.ref (s.heap.objs.size + 1)) { s with heap := h' }) :
    wpAny (model prog w) A (call (.type "enumerate") [v]) Q E s := by
  refine callType_new F.called_enumerate (by decide) (F.typeCall_enumerate_1 _) (F.newCall_enumerate_1 _) (fun obj => F.args_object_init_2 obj _) F.entry_enumerate_new
    (meets_enumerate_new1 B) ⟨h1, ?_⟩
  have hz : (s.heap.push o).objs.size = s.heap.objs.size + 1 := Heap.size_push ..
  show _ ∧ _
  rw [hz]
  have he : IsEnum ((s.heap.push o).push { cls := .type "enumerate", data := .fields #[.none, .bool false, .ref s.heap.objs.size, rawInt 0, .none, .none] }) (s.heap.objs.size + 1) s.heap.objs.size 0 .none := by
    have := Heap.get?_push_size (s.heap.push o) (o := { cls := .type "enumerate", data := .fields #[.none, .bool false, .ref s.heap.objs.size, rawInt 0, .none, .none] }) rfl
    rw [hz] at this; exact this
  refine ⟨⟨_, he, rfl⟩, h _ he (Heap.get?_push_of_some _ (Heap.get?_push_size _ B.free)) (by rw [Heap.size_push, hz]) fun b o x => Heap.get?_push_of_some _ (Heap.get?_push_of_some _ x)⟩
def ItE (K : PySem.W.Frag) (k : Bool) (a : Addr) : It :=
  ⟨fun i H => ∃ (xs : List V) (x : V), SqK K k H a xs ∧ xs[i]? = some x,
    fun i H v H' => ∃ T x, v = .ref T ∧ H T = none ∧ H' = upd H T (.tup [.int (i : Nat), x]) ∧ ∀ xs, SqK K k H a xs → xs[i]? = some x,
    fun i H => ∃ xs : List V, SqK K k H a xs ∧ i = xs.length⟩
theorem turn_e {P : Program} {w : World} {K : PySem.W.Frag} {elts : List Expr} {kk : Nat} {tpos : Pos} {k : Bool} {a e it : Addr} (hei : e ≠ it) (hea : e ≠ a) (hia : a ≠ it) :
    Turn P w K (.Tuple elts kk tpos) (ItE K k a) [e, it] e (fun i h => (∃ old, IsEnum h e it ((0 : Int) + (i : Int)) old) ∧ ItK k h it a i) := by
  refine turn_goes (by simp) (fun i h st d hd => ?_) (fun i h h' st k => ?_) (fun X hP hw hK hc i pins s σ H I hf st hg => ?_) fun A i s Q E st h => let ⟨⟨_, he⟩, _⟩ := st; wpAny_pyIter_enum he h
  · obtain ⟨⟨old, he⟩, h1⟩ := st
    have e' : d = e ∨ d = it := by simpa using hd
    rcases e' with q | q
    · rw [q]; exact ⟨_, he, fun v q => nomatch q⟩
    · rw [q]; exact h1.obj
  · obtain ⟨⟨old, he⟩, h1⟩ := st
    exact ⟨⟨old, k e (by simp) _ he⟩, h1.at fun o q => k it (by simp) o q⟩
  · subst hP hw hK
    obtain ⟨he, h1⟩ := st
    have src : ∃ xs, SqK X.K k H a xs := by
      rcases hg with ⟨xs, _, p, _⟩ | ⟨xs, p, _⟩
      · exact ⟨xs, p⟩
      · exact ⟨xs, p⟩
    obtain ⟨xs, sx⟩ := src
    obtain ⟨its, rv, p1, z1, _⟩ := invK I sx
    have hh : X.A.in1.handled = none := I.ok.hd hc
    have l1 := rv.length
    refine ⟨_, _, _, _, _, GoesN.enumFrom 0 (drawsK hh k it a hia its.toArray) e hei (by simp [hei, hea]) (by simp), ⟨he, ⟨h1, p1⟩⟩, fun d hd => hd, fun hgo => ⟨?_, fun v h' hY st' hk => ?_⟩, fun hs => ?_⟩
    · obtain ⟨xs', x, p, e1⟩ := hgo
      have E1 := invK_inj I p sx
      subst E1
      have g1 := lt_of_get e1
      simp only [List.size_toArray]
      omega
    · obtain ⟨T, t, u, rfl, hT, hu, htup⟩ := hY
      obtain ⟨he', ⟨h1', _⟩⟩ := st'
      refine ⟨⟨he', h1'⟩, ?_⟩
      obtain ⟨xs', x, p, e1⟩ := hgo
      have E1 := invK_inj I p sx
      subst E1
      obtain ⟨u', hu', ru⟩ := rv.get e1
      have eu := same_get hu hu'
      subst eu
      refine ⟨T, .tup [.int (i : Nat), x], rfl, hT, tup_ok (us := [.int ((0 : Int) + (i : Int)) t, u]) (.cons ⟨t, by rw [Int.zero_add]⟩ (.cons ru .nil)) htup (by show 2 ≤ sizeLine; decide), T, x, rfl, I.hok.fresh hT, rfl, fun l hl => by rw [invK_inj I hl p]; exact e1⟩
    · obtain ⟨xs', p, e⟩ := hs
      have E1 := invK_inj I p sx
      subst E1
      simp only [List.size_toArray]
      omega
def iE (K : PySem.W.Frag) (ta : TA) : TI := fun σ H R => ta σ H fun vs H1 => ∃ k a xs, vs = [.ref a] ∧ SqK K k H1 a xs ∧ R (ItE K k a) H1
theorem pi_e {X : Cx} {e : Expr} {ta : TA} {p pos tpos : Pos} {elts : List Expr} {kk : Nat} (hg : Gl X "enumerate") (hm : X.mg "enumerate" = none) (ha : PA X [e] ta) (hs : starEach [e] X.env = [(false, eval e X.env)] := by rfl) :
    PI X (.Tuple elts kk tpos) (.Call (.Name "enumerate" p) [e] [] pos) (iE X.K ta) := by
  refine ⟨fun pins s σ H R I h => ?_⟩
  refine Call_ (ld_blt (u := .type "enumerate") I hg hm (by decide +kernel) (PyProof.Rows.callWith_type1 (thn (ha.run pos pins s σ H _ I h) fun us s1 ⟨vs, H1, I1, r1, q1⟩ => ?_) (by rw [hs]; rfl) rfl))
  obtain ⟨k, a, xs, ex, hqx, q⟩ := q1
  subst ex
  rw [Vals.ref1 r1]
  obtain ⟨its, rv, p1, _, la⟩ := invK I1 hqx
  refine enum_begins1 (beginsK k a its.toArray) p1 fun h' he h1 hsz hk => wpAny_pyIter_enum he ?_
  have I2 : Inv X pins σ H1 { s1 with heap := h' } := I1.kept (t' := s1.toks) hk
  refine ⟨s1.heap.objs.size + 1, [s1.heap.objs.size + 1, s1.heap.objs.size], _, _, H1, rfl, I2,
    turn_e (Nat.ne_of_gt (Nat.lt_succ_self _)) (Nat.ne_of_gt (Nat.lt_succ_of_lt la)) (Nat.ne_of_lt la), ⟨⟨_, he⟩, itK_new h1⟩, fun d hdm => ?_, q⟩
  have hle : s1.heap.objs.size ≤ d := by
    have e' : d = s1.heap.objs.size + 1 ∨ d = s1.heap.objs.size := by simpa using hdm
    rcases e' with z | z
    · rw [z]; exact Nat.le_add_right _ _
    · rw [z]; exact Nat.le_refl _
  exact I1.fpOk hle (I1.hok.fresh hle)
end Pl
namespace Pl
open PySem PySem.Spec PyProof.Rows L2
variable [TJ]
structure PEnds where
  nx : Ro → Prop
  rt : Cell → Ro → Prop
  bk : Ro → Prop := fun _ => False
  ct : Ro → Prop := fun _ => False
abbrev TSp := PEnds → Ro → Prop
structure ERel (K : PySem.W.Frag) (G F : Hp) (P : PEnds) (D : Ends) : Prop where
  nx : ∀ F' H' σ' ρ', Up G F F' → Sim K G F' H' σ' ρ' → P.nx ρ' → D.nx σ' H'
  rt : ∀ F' H' σ' ρ' v c, Up G F F' → Sim K G F' H' (σ' ++ [some v]) (ρ' ++ [some c]) → P.rt c ρ' → D.rt v H'
  bk : ∀ F' H' σ' ρ', Up G F F' → Sim K G F' H' σ' ρ' → P.bk ρ' → D.bk σ' H'
  ct : ∀ F' H' σ' ρ', Up G F F' → Sim K G F' H' σ' ρ' → P.ct ρ' → D.ct σ' H'
theorem ERel.mono {K : PySem.W.Frag} {G F F1 : Hp} {P : PEnds} {D : Ends} (e : ERel K G F P D) (u : Up G F F1) : ERel K G F1 P D :=
  ⟨fun F' H' σ' ρ' v => e.nx F' H' σ' ρ' (u.trans v), fun F' H' σ' ρ' x c v => e.rt F' H' σ' ρ' x c (u.trans v), fun F' H' σ' ρ' v => e.bk F' H' σ' ρ' (u.trans v), fun F' H' σ' ρ' v => e.ct F' H' σ' ρ' (u.trans v)⟩
def SndS (K : PySem.W.Frag) (t : TS) (T : TSp) : Prop := ∀ (G F H : Hp) (σ : L2.St) (ρ : Ro) (P : PEnds) (D : Ends), Sim K G F H σ ρ → T P ρ → ERel K G F P D → t D σ H
structure PPS (X : Cx) (st : Stmt) (t : TS) (T : TSp) : Prop where
  ps : PS X st t
  snd : SndS X.K t T
structure PPSs (X : Cx) (st : List Stmt) (t : TS) (T : TSp) : Prop where
  ps : PSs X st t
  snd : SndS X.K t T
section
variable {X : Cx} {st : Stmt} {rest : List Stmt} {t u : TS} {T U : TSp} {e : Expr} {te : TE} {Te : TEp} {Tc : TCp} {pos : Pos}
def pNext : TSp := fun P ρ => P.nx ρ
def pSeq (T U : TSp) : TSp := fun P ρ => T { P with nx := U P } ρ
theorem ppss_nil : PPSs X [] tNext pNext := ⟨pss_nil, fun G F H σ ρ P D S h r => r.nx F H σ ρ (.refl _ _) S h⟩
theorem ppss_one (h1 : PPS X st t T) : PPSs X [st] t T := ⟨pss_one h1.ps, h1.snd⟩
theorem ppss_cons (h1 : PPS X st t T) (h2 : PPSs X rest u U) : PPSs X (st :: rest) (tSeq t u) (pSeq T U) := ⟨pss_cons h1.ps h2.ps, fun G F H σ ρ P D S h r =>
  h1.snd G F H σ ρ _ _ S h ⟨fun F' H' σ' ρ' u S' q => h2.snd G F' H' σ' ρ' P D S' q (r.mono u), r.rt, r.bk, r.ct⟩⟩
def pRet (Tc : TCp) : TSp := fun P ρ => Tc ρ P.rt
theorem pps_ret (he : PPC X e te Tc) : PPS X (.Return (some e) pos) (tRet te) (pRet Tc) := ⟨ps_ret he.pe, fun G F H σ ρ P D S h r =>
  he.snd G F H σ ρ _ _ S h fun v c F' H' ρ' u S' q => r.rt F' H' σ ρ' v c u S' q⟩
def pIfS (C : TTp) (T U : TSp) : TSp := fun P ρ => C ρ fun b ρ1 => if b = true then T P ρ1 else U P ρ1
theorem pps_if {c : Expr} {a b : List Stmt} {tc : TT} {C : TTp} (hc : PPT X c tc C) (ha : PPSs X a t T) (hb : PPSs X b u U) : PPS X (.If c a b pos) (tIfS tc t u) (pIfS C T U) := ⟨ps_if hc.pt ha.ps hb.ps, fun G F H σ ρ P D S h r =>
  hc.snd G F H σ ρ _ _ S h fun b F' H' ρ' u S' q => by
    cases b with
    | true => exact ite_ti (ha.snd G F' H' σ ρ' P D S' (ite_t q) (r.mono u))
    | false => exact ite_fi (hb.snd G F' H' σ ρ' P D S' (ite_f q) (r.mono u))⟩
def pNever : TSp := fun _ _ => False
theorem pps_never : PPS X st tNever pNever := ⟨ps_never, fun _ _ _ _ _ _ _ _ h _ => h.elim⟩
abbrev TGp := D → Ro → (Ro → Prop) → Prop
abbrev TGsp := List D → Ro → (Ro → Prop) → Prop
def SndG (K : PySem.W.Frag) (g : TG) (Gp : TGp) (is : List Nat) : Prop := ∀ (G F H : Hp) (σ : L2.St) (ρ : Ro) (Q : Ro → Prop) (R : L2.St → Hp → Prop) (v : V) (d : D), Sim K G F H σ ρ → Rep K F v d → Gp d ρ Q →
  (∀ F' H' σ' ρ', Up G F F' → Sim K G F' H' σ' ρ' → (∀ j, j ∉ is → σ'[j]? = σ[j]?) → σ'.length = σ.length → Q ρ' → R σ' H') → g v σ H R
def SndGs (K : PySem.W.Frag) (g : TGs) (Gp : TGsp) (is : List Nat) : Prop := ∀ (G F H : Hp) (σ : L2.St) (ρ : Ro) (Q : Ro → Prop) (R : L2.St → Hp → Prop) (vs : List V) (ds : List D), Sim K G F H σ ρ → Reps K F vs ds → Gp ds ρ Q →
  (∀ F' H' σ' ρ', Up G F F' → Sim K G F' H' σ' ρ' → (∀ j, j ∉ is → σ'[j]? = σ[j]?) → σ'.length = σ.length → Q ρ' → R σ' H') → g vs σ H R
structure PTg (X : Cx) (tg : Expr) (g : TG) (Gp : TGp) (is : List Nat) : Prop where
  pg : PG X tg g
  snd : SndG X.K g Gp is
structure PTgs (X : Cx) (tgs : List Expr) (g : TGs) (Gp : TGsp) (is : List Nat) : Prop where
  pg : PGs X tgs g
  snd : SndGs X.K g Gp is
def hName (i : Nat) : TGp := fun d ρ Q => Q (ρ.set i (some (.val d)))
theorem ptg_name {i : Nat} {x : Str} (hN : X.N.Nodup) (hi : X.N[i]? = some x := by rfl) (hx : Loc X.env.scope x := by first | exact Or.inl rfl | exact Or.inr rfl) (hf : X.fn x = true ∨ X.env.scope.names.lookup x = some .local := by first | exact .inl rfl | exact .inr rfl | assumption) : PTg X (.Name x pos) (gName i) (hName i) [i] :=
  ⟨pg_name hN hi hx hf, fun G F H σ ρ Q R v d S r h k => k F H _ _ (.refl _ _) (S.setVal i r) (fun j hj => List.getElem?_set_ne (fun z => hj (by simp [z]))) (by simp) h⟩
def hNil : TGsp := fun ds ρ Q => ds = [] ∧ Q ρ
def hCons (g : TGp) (gs : TGsp) : TGsp := fun ds ρ Q => match ds with | d :: r => g d ρ fun ρ' => gs r ρ' Q | [] => False
theorem ptgs_nil : PTgs X [] gNil hNil [] := ⟨pgs_nil, fun G F H σ ρ Q R vs ds S r h k => by
  obtain ⟨rfl, h⟩ := h
  cases r
  exact ⟨rfl, k F H σ ρ (.refl _ _) S (fun _ _ => rfl) rfl h⟩⟩
theorem ptgs_cons {e : Expr} {es : List Expr} {g : TG} {gs : TGs} {Gp : TGp} {Gs : TGsp} {is js : List Nat} (h1 : PTg X e g Gp is) (h2 : PTgs X es gs Gs js)
    (hs : (assignEach (e :: es) X.env).map (·.2) = assign e X.env :: (assignEach es X.env).map (·.2) := by rfl) : PTgs X (e :: es) (gCons g gs) (hCons Gp Gs) (is ++ js) := ⟨pgs_cons h1.pg h2.pg hs, fun G F H σ ρ Q R vs ds S r h k => by
  cases r with
  | nil => exact h.elim
  | cons r1 r2 => exact ⟨_, _, rfl, h1.snd G F H σ ρ _ _ _ _ S r1 h fun F1 H1 σ1 ρ1 u1 S1 o1 l1 q1 => h2.snd G F1 H1 σ1 ρ1 _ _ _ _ S1 (r2.mono u1.ex) q1 fun F2 H2 σ2 ρ2 u2 S2 o2 l2 q2 =>
      k F2 H2 σ2 ρ2 (u1.trans u2) S2 (fun j hj => (o2 j fun z => hj (List.mem_append_right _ z)).trans (o1 j fun z => hj (List.mem_append_left _ z))) (l2.trans l1) q2⟩⟩
def gAny (K : PySem.W.Frag) (n : Nat) (t : TGs) : TG := fun v σ H Q => gTup K n t v σ H Q ∨ gUnl K n t v σ H Q
def hTup (n : Nat) (g : TGsp) : TGp := fun d ρ Q => match d with
  | .tup ds => ds.length = n ∧ g ds ρ Q
  | .lst ds => ds.length = n ∧ g ds ρ Q
  | _ => False
theorem ptg_tup {es : List Expr} {k : Nat} {t : TGs} {Gp : TGsp} {n : Nat} {is : List Nat} (hc : X.calm = true) (h : PTgs X es t Gp is)
    (hn : (assignEach es X.env).length = n := by rfl) (hst : (assignEach es X.env).findIdx? (·.1) = none := by rfl) : PTg X (.Tuple es k pos) (gAny X.K n t) (hTup n Gp) is :=
  ⟨⟨fun pins s σ H v u Q I r hw => hw.elim (fun hw => (pg_tup hc h.pg hn hst).run pins s σ H v u Q I r hw) fun hw => (pg_unl hc h.pg hn hst).run pins s σ H v u Q I r hw⟩, fun G F H σ ρ Q R v d S r hh k => by
    cases r with
    | tup e r => exact .inl ⟨_, _, rfl, SqT.of (S.hF _ _ e), by rw [r.length]; exact hh.1, h.snd G F H σ ρ Q R _ _ S r hh.2 k⟩
    | lst e r => exact .inr ⟨_, _, rfl, SqL.of (S.hF _ _ e), by rw [r.length]; exact hh.1, h.snd G F H σ ρ Q R _ _ S r hh.2 k⟩
    | _ => exact hh.elim⟩
def pSet (i : Nat) (Tc : TCp) : TSp := fun P ρ => Tc ρ fun c ρ1 => P.nx (ρ1.set i (some c))
theorem snd_set {K : PySem.W.Frag} {i : Nat} {te : TE} {Tc : TCp} (h : SndC K te Tc) : SndS K (tAsg te (gName i)) (pSet i Tc) := fun G F H σ ρ P D S hT r =>
  h G F H σ ρ _ _ S hT fun v c F' H' ρ' u S' q => r.nx F' H' _ _ u (S'.store i) q
theorem pps_set {i : Nat} {x : Str} {pos' : Pos} (hN : X.N.Nodup) (he : PPC X e te Tc) (hi : X.N[i]? = some x := by rfl) (hx : Loc X.env.scope x := by first | exact Or.inl rfl | exact Or.inr rfl) (hs : swapsWith e (some (.Name x pos')) pos.line X.env = pure false := by rfl) (hf : X.fn x = true ∨ X.env.scope.names.lookup x = some .local := by first | exact .inl rfl | exact .inr rfl | assumption) :
    PPS X (.Assign [.Name x pos'] e pos) (tAsg te (gName i)) (pSet i Tc) := ⟨ps_set hN hi hx he.pe hs hf, snd_set he.snd⟩
def pAsg (Te : TEp) (g : TGp) : TSp := fun P ρ => Te ρ fun d ρ1 => g d ρ1 P.nx
theorem pps_asg {tg : Expr} {g : TG} {Gp : TGp} {is : List Nat} (he : PPE X e te Te) (hg : PTg X tg g Gp is) (hs : swapsWithSole [tg] e pos.line X.env = pure false := by rfl) (hw : swappedStores [tg] e X.env = pure none := by rfl)
    (h1 : (assignEach [tg] X.env).map (·.2) = [assign tg X.env] := by rfl) : PPS X (.Assign [tg] e pos) (tAsg te g) (pAsg Te Gp) := ⟨ps_asg he.pe hg.pg hs hw h1, fun G F H σ ρ P D S hT r =>
  he.snd G F H σ ρ _ _ S hT fun v d F' H' ρ' u S' rv q => hg.snd G F' H' σ ρ' _ _ v d S' rv q fun F2 H2 σ2 ρ2 u2 S2 _ _ q2 => r.nx F2 H2 σ2 ρ2 (u.trans u2) S2 q2⟩
def pPar (i j : Nat) (T : TAp) : TSp := fun P ρ => T ρ fun ds ρ1 => match ds with | [x, y] => P.nx ((ρ1.set i (some (.val x))).set j (some (.val y))) | _ => False
theorem pps_par {i j : Nat} {x y : Str} {a b : Expr} {ta : TA} {TA' : TAp} {px py pt : Pos} {kt k2 pt2} (hc : X.calm = true) (hN : X.N.Nodup) (ha : PPA X [a, b] ta TA') (hi : X.N[i]? = some x := by rfl) (hj : X.N[j]? = some y := by rfl) (hij : i ≠ j := by decide)
    (hx : X.env.scope.names.lookup x = some .local := by rfl) (hy : X.env.scope.names.lookup y = some .local := by rfl)
    (hw : swappedStores [.Tuple [.Name x px, .Name y py] kt pt] (.Tuple [a, b] k2 pt2) X.env = pure (some [x, y]) := by rfl)
    (hs : swapsWithSole [.Tuple [.Name x px, .Name y py] kt pt] (.Tuple [a, b] k2 pt2) pos.line X.env = pure false := by rfl) :
    PPS X (.Assign [.Tuple [.Name x px, .Name y py] kt pt] (.Tuple [a, b] k2 pt2) pos) (tPar i j ta) (pPar i j TA') := ⟨ps_par hc hN hi hj hij hx hy ha.pa hw hs, fun G F H σ ρ P D S hT r =>
  ha.snd G F H σ ρ _ _ S hT fun vs ds F' H' ρ' u S' rv q => by
    match rv, q with
    | .cons (d := d1) r1 (.cons (d := d2) r2 .nil), q => exact ⟨_, _, rfl, r.nx F' H' _ _ u ((S'.setVal i r1).setVal j r2) q⟩
    | .nil, q => exact q.elim
    | .cons _ .nil, q => exact q.elim
    | .cons _ (.cons _ (.cons _ _)), q => exact q.elim⟩
def pPar3 (i j l : Nat) (T : TAp) : TSp := fun P ρ => T ρ fun ds ρ1 => match ds with | [x, y, z] => P.nx (((ρ1.set i (some (.val x))).set j (some (.val y))).set l (some (.val z))) | _ => False
theorem pps_par3 {i j l : Nat} {x y z : Str} {a b c : Expr} {ta : TA} {TA' : TAp} {px py pz pt : Pos} {kt k2 pt2} (hc : X.calm = true) (hN : X.N.Nodup) (ha : PPA X [a, b, c] ta TA') (hi : X.N[i]? = some x := by rfl) (hj : X.N[j]? = some y := by rfl) (hl : X.N[l]? = some z := by rfl) (hij : i ≠ j := by decide) (hil : i ≠ l := by decide) (hjl : j ≠ l := by decide)
    (hx : X.env.scope.names.lookup x = some .local := by rfl) (hy : X.env.scope.names.lookup y = some .local := by rfl) (hz : X.env.scope.names.lookup z = some .local := by rfl)
    (hw : swappedStores [.Tuple [.Name x px, .Name y py, .Name z pz] kt pt] (.Tuple [a, b, c] k2 pt2) X.env = pure (some [x, y, z]) := by rfl)
    (hs : swapsWithSole [.Tuple [.Name x px, .Name y py, .Name z pz] kt pt] (.Tuple [a, b, c] k2 pt2) pos.line X.env = pure false := by rfl) :
    PPS X (.Assign [.Tuple [.Name x px, .Name y py, .Name z pz] kt pt] (.Tuple [a, b, c] k2 pt2) pos) (tPar3 i j l ta) (pPar3 i j l TA') := ⟨ps_par3 hc hN hi hj hl hij hil hjl hx hy hz ha.pa hw hs, fun G F H σ ρ P D S hT r =>
  ha.snd G F H σ ρ _ _ S hT fun vs ds F' H' ρ' u S' rv q => by
    match rv, q with
    | .cons r1 (.cons r2 (.cons r3 .nil)), q => exact ⟨_, _, _, rfl, r.nx F' H' _ _ u (((S'.setVal i r1).setVal j r2).setVal l r3) q⟩
    | .nil, q => exact q.elim
    | .cons _ .nil, q => exact q.elim
    | .cons _ (.cons _ .nil), q => exact q.elim
    | .cons _ (.cons _ (.cons _ (.cons _ _))), q => exact q.elim⟩
end
def ItRep (K : PySem.W.Frag) (J : It) (F : Hp) (ds : List D) : Prop := ∀ F' H, Same F F' → Same F' H →
  (∀ (i : Nat) (d : D), ds[i]? = some d → J.go i H ∧ ∀ x H', J.yld i H x H' → ∃ F'', Res K F' H x d F'' H') ∧ J.stop ds.length H
theorem ItRep.mono {K : PySem.W.Frag} {J : It} {F F1 : Hp} {ds : List D} (h : ItRep K J F ds) (e : Same F F1) : ItRep K J F1 ds := fun F' H e1 e2 => h F' H (e.trans e1) e2
def SndI (K : PySem.W.Frag) (wi : TI) (T : TAp) : Prop := ∀ (G F H : Hp) (σ : L2.St) (ρ : Ro) (Q : List D → Ro → Prop) (R : It → Hp → Prop), Sim K G F H σ ρ → T ρ Q →
  (∀ J ds F' H' ρ', Up G F F' → Sim K G F' H' σ ρ' → ItRep K J F' ds → Q ds ρ' → R J H') → wi σ H R
structure PPI (X : Cx) (tg iter : Expr) (wi : TI) (T : TAp) : Prop where
  pi : PI X tg iter wi
  snd : SndI X.K wi T
theorem itrep_list {K : PySem.W.Frag} {F : Hp} {a : Addr} {vs : List V} {ds : List D} (h : F a = some (.lst vs)) (r : Reps K F vs ds) : ItRep K (Itl K a) F ds := fun F' H e1 e2 => by
  have hH : H a = some (.lst vs) := e2 _ _ (e1 _ _ h)
  refine ⟨fun i d hd => ?_, ⟨vs, SqL.of hH, by rw [r.length]; exact Nat.le_refl _⟩⟩
  obtain ⟨v, hv, rv⟩ := r.get hd
  refine ⟨⟨vs, v, SqL.of hH, hv⟩, fun x H' y => ?_⟩
  obtain ⟨rfl, y⟩ := y
  have e : x = v := Option.some.inj ((y vs (SqL.of hH)).symm.trans hv)
  subst e
  exact ⟨F', .old (rv.mono e1)⟩
theorem itrep_tup {K : PySem.W.Frag} {F : Hp} {a : Addr} {vs : List V} {ds : List D} (h : F a = some (.tup vs)) (r : Reps K F vs ds) : ItRep K (Itt K a) F ds := fun F' H e1 e2 => by
  have hH : H a = some (.tup vs) := e2 _ _ (e1 _ _ h)
  refine ⟨fun i d hd => ?_, ⟨vs, SqT.of hH, by rw [r.length]; exact Nat.le_refl _⟩⟩
  obtain ⟨v, hv, rv⟩ := r.get hd
  refine ⟨⟨vs, v, SqT.of hH, hv⟩, fun x H' y => ?_⟩
  obtain ⟨rfl, y⟩ := y
  have e : x = v := Option.some.inj ((y vs (SqT.of hH)).symm.trans hv)
  subst e
  exact ⟨F', .old (rv.mono e1)⟩
def asSeq (d : D) (k : List D → Prop) : Prop := match d with
  | .lst xs => k xs
  | .tup xs => k xs
  | _ => False
theorem Rep.seq {K : PySem.W.Frag} {F : Hp} {v : V} {d : D} {k : List D → Prop} (r : Rep K F v d) (h : asSeq d k) : ∃ (a : Addr) (q : Bool) (vs : List V) (ds : List D), v = .ref a ∧ F a = some (if q = true then .lst vs else .tup vs) ∧ Reps K F vs ds ∧ k ds := by
  cases r with
  | lst e r => exact ⟨_, true, _, _, rfl, e, r, h⟩
  | tup e r => exact ⟨_, false, _, _, rfl, e, r, h⟩
  | _ => exact h.elim
theorem sqk_of {K : PySem.W.Frag} {H : Hp} {a : Addr} {q : Bool} {vs : List V} (h : H a = some (if q = true then HO.lst vs else .tup vs)) : SqK K q H a vs := by
  cases q with
  | true => exact SqL.of h
  | false => exact SqT.of h
section
variable {X : Cx} {tg : Expr} {l : Expr} {tl : TE} {Tl : TEp} {pos : Pos}
def iAny (K : PySem.W.Frag) (tl : TE) : TI := fun σ H R => tl σ H fun x H1 => ∃ a, x = .ref a ∧ (((∃ xs, SqL K H1 a xs) ∧ R (Itl K a) H1) ∨ ((∃ xs, SqT K H1 a xs) ∧ R (Itt K a) H1))
theorem pi_any (hl : PE X l tl) : PI X tg l (iAny X.K tl) := by
  refine ⟨fun pins s σ H R I h => ?_⟩
  refine thn (hl.run pins s σ H _ I h) fun v s1 ⟨x, H1, I1, r1, q1⟩ => ?_
  obtain ⟨a, e, q1⟩ := q1
  subst e
  cases r1
  rcases q1 with ⟨⟨xs, hq⟩, q⟩ | ⟨⟨xs, hq⟩, q⟩
  · obtain ⟨its, rv, p, hz⟩ := I1.list hq
    refine wpAny_pyIter_list p.isList ?_
    refine ⟨s1.heap.objs.size, [s1.heap.objs.size], _, _, H1, rfl, I1.kept (t' := s1.toks) fun b o e => Heap.get?_push_of_some _ e, turn_list a _, ⟨_, Heap.get?_push_size _ rfl, rfl, rfl⟩, fun b hb => ?_, q⟩
    have e : b = s1.heap.objs.size := by simpa using hb
    subst e
    exact I1.fpOk (Nat.le_refl _) (I1.hok.fresh (Nat.le_refl _))
  · obtain ⟨its, rv, p, hz⟩ := I1.tuple hq
    refine wpAny_pyIter_tuple (show s1.heap.IsTuple a its.toArray from p) ?_
    refine ⟨s1.heap.objs.size, [s1.heap.objs.size], _, _, H1, rfl, I1.kept (t' := s1.toks) fun b o e => Heap.get?_push_of_some _ e, turn_tuple a _, ⟨_, Heap.get?_push_size _ rfl, rfl, rfl⟩, fun b hb => ?_, q⟩
    have e : b = s1.heap.objs.size := by simpa using hb
    subst e
    exact I1.fpOk (Nat.le_refl _) (I1.hok.fresh (Nat.le_refl _))
def jSeq (Tl : TEp) : TAp := fun ρ Q => Tl ρ fun x ρ1 => asSeq x fun xs => Q xs ρ1
theorem ppi_seq (hl : PPE X l tl Tl) : PPI X tg l (iAny X.K tl) (jSeq Tl) := ⟨pi_any hl.pe, fun G F H σ ρ Q R S h k =>
  hl.snd G F H σ ρ _ _ S h fun v d F' H' ρ' u S' rv q => by
    cases rv with
    | lst e r => exact ⟨_, rfl, .inl ⟨⟨_, SqL.of (S'.hF _ _ e)⟩, k _ _ F' H' ρ' u S' (itrep_list e r) q⟩⟩
    | tup e r => exact ⟨_, rfl, .inr ⟨⟨_, SqT.of (S'.hF _ _ e)⟩, k _ _ F' H' ρ' u S' (itrep_tup e r) q⟩⟩
    | _ => exact q.elim⟩
def rangeD (lo : Int) (n : Nat) : List D := (List.range n).map fun (i : Nat) => .int (lo + (i : Int))
theorem itrep_range {K : PySem.W.Frag} {F : Hp} (lo : Int) (n : Nat) : ItRep K (Itr lo n) F (rangeD lo n) := fun F' H e1 e2 => by
  refine ⟨fun i d hd => ?_, ?_⟩
  · have hi : i < n := by have := lt_of_get hd; simpa [rangeD] using this
    refine ⟨hi, fun x H' y => ?_⟩
    obtain ⟨rfl, rfl⟩ := y
    have e : d = .int (lo + i) := by
      unfold rangeD at hd
      rw [List.getElem?_map, List.getElem?_range hi] at hd
      exact (Option.some.inj hd).symm
    subst e
    exact ⟨F', .old (.int _)⟩
  · show n ≤ (rangeD lo n).length
    simp [rangeD]
def jRng1 (T : TAp) : TAp := fun ρ Q => T ρ fun ds ρ1 => match ds with | [.int j] => -(2 ^ 62) ≤ j ∧ j < 2 ^ 62 ∧ Q (rangeD 0 j.toNat) ρ1 | _ => False
theorem Reps.int1 {K : PySem.W.Frag} {F : Hp} {vs : List V} {j : Int} (r : Reps K F vs [.int j]) : vs = [.int j] := by
  cases r with
  | cons h t => cases h; cases t; rfl
theorem Reps.int2 {K : PySem.W.Frag} {F : Hp} {vs : List V} {i j : Int} (r : Reps K F vs [.int i, .int j]) : vs = [.int i, .int j] := by
  cases r with
  | cons h t => cases h; rw [t.int1]
theorem ppi_range1 {a : Expr} {ta : TA} {TA' : TAp} {p : Pos} (hg : Gl X "range") (hm : X.mg "range" = none) (ha : PPA X [a] ta TA') (hs : starEach [a] X.env = [(false, eval a X.env)] := by rfl) : PPI X tg (.Call (.Name "range" p) [a] [] pos) (iRng1 ta) (jRng1 TA') := ⟨pi_range1 hg hm ha.pa hs, fun G F H σ ρ Q R S h k =>
  ha.snd G F H σ ρ _ _ S h fun vs ds F' H' ρ' u S' rv q => by
    match ds, rv, q with
    | [.int j], rv, q => exact ⟨j, rv.int1, q.1, q.2.1, k _ _ F' H' ρ' u S' (itrep_range 0 _) q.2.2⟩⟩
theorem get_zipWith {α β γ : Type} {f : α → β → γ} {xs : List α} {ys : List β} {i : Nat} {z : γ} (h : (List.zipWith f xs ys)[i]? = some z) : ∃ x y, xs[i]? = some x ∧ ys[i]? = some y ∧ z = f x y := by
  rw [List.getElem?_zipWith] at h
  cases e1 : xs[i]? with
  | none => rw [e1] at h; simp at h
  | some x =>
    cases e2 : ys[i]? with
    | none => rw [e1, e2] at h; simp at h
    | some y => rw [e1, e2] at h; exact ⟨x, y, rfl, rfl, by simpa using h.symm⟩
def zipD (xs ys : List D) : List D := List.zipWith (fun x y => .tup [x, y]) xs ys
theorem itrep_z2 {K : PySem.W.Frag} {F : Hp} {k1 k2 : Bool} {a b : Addr} {vs ws : List V} {xs ys : List D} (h1 : F a = some (if k1 = true then .lst vs else .tup vs)) (h2 : F b = some (if k2 = true then .lst ws else .tup ws)) (r1 : Reps K F vs xs) (r2 : Reps K F ws ys) : ItRep K (ItZ2 K k1 a k2 b) F (zipD xs ys) := fun F' H e1 e2 => by
  have s1 : SqK K k1 H a vs := sqk_of (e2 _ _ (e1 _ _ h1))
  have s2 : SqK K k2 H b ws := sqk_of (e2 _ _ (e1 _ _ h2))
  refine ⟨fun i d hd => ?_, ⟨vs, ws, s1, s2, by simp [zipD, r1.length, r2.length]⟩⟩
  obtain ⟨x, y, hx, hy, rfl⟩ := get_zipWith hd
  obtain ⟨v, hv, rv⟩ := r1.get hx
  obtain ⟨w, hw, rw'⟩ := r2.get hy
  refine ⟨⟨vs, ws, v, w, s1, s2, hv, hw⟩, fun z H' q => ?_⟩
  obtain ⟨T, v', w', rfl, hT, rfl, f1, f2⟩ := q
  have ev : v' = v := Option.some.inj ((f1 _ s1).symm.trans hv)
  have ew : w' = w := Option.some.inj ((f2 _ s2).symm.trans hw)
  subst ev ew
  have hn : F' T = none := e2.free hT
  exact ⟨_, .new hT (.tup upd_same (.cons ((rv.mono e1).mono (same_new hn)) (.cons ((rw'.mono e1).mono (same_new hn)) .nil)))⟩
def jZ2 (T : TAp) : TAp := fun ρ Q => T ρ fun ds ρ1 => match ds with | [x, y] => asSeq x fun xs => asSeq y fun ys => Q (zipD xs ys) ρ1 | _ => False
theorem ppi_z2 {e e2 : Expr} {ta : TA} {TA' : TAp} {p tpos : Pos} {elts : List Expr} {kk : Nat} (hg : Gl X "zip") (hm : X.mg "zip" = none) (ha : PPA X [e, e2] ta TA')
    (hs : starEach [e, e2] X.env = (false, eval e X.env) :: starEach [e2] X.env := by rfl) (hpl : (backTo pos (starEach [e2] X.env)).any (·.1) = false := by rfl) :
    PPI X (.Tuple elts kk tpos) (.Call (.Name "zip" p) [e, e2] [] pos) (iZ2 X.K ta) (jZ2 TA') := ⟨pi_z2 hg hm ha.pa hs hpl, fun G F H σ ρ Q R S h k =>
  ha.snd G F H σ ρ _ _ S h fun vs ds F' H' ρ' u S' rv q => by
    match ds, rv, q with
    | [x, y], .cons rx (.cons ry .nil), q =>
      obtain ⟨a, k1, ws, xs, rfl, h1, r1, q⟩ := rx.seq q
      obtain ⟨b, k2, zs, ys, rfl, h2, r2, q⟩ := ry.seq q
      exact ⟨k1, k2, a, b, ws, zs, rfl, sqk_of (S'.hF _ _ h1), sqk_of (S'.hF _ _ h2), k _ _ F' H' ρ' u S' (itrep_z2 h1 h2 r1 r2) q⟩⟩
def enumD (n : Nat) : List D → List D
  | [] => []
  | x :: xs => .tup [.int n, x] :: enumD (n + 1) xs
theorem enumD_get : ∀ {xs : List D} {n i : Nat} {d : D}, (enumD n xs)[i]? = some d → ∃ x, xs[i]? = some x ∧ d = .tup [.int (n + i : Nat), x]
  | x :: xs, n, 0, d, h => ⟨x, rfl, (Option.some.inj h).symm⟩
  | x :: xs, n, i + 1, d, h => by
    obtain ⟨a, h1, h2⟩ := enumD_get (xs := xs) (n := n + 1) (i := i) (d := d) h
    exact ⟨a, h1, by rw [h2, show n + 1 + i = n + (i + 1) by omega]⟩
  | [], _, _, _, h => by simp [enumD] at h
theorem enumD_len : ∀ (xs : List D) (n : Nat), (enumD n xs).length = xs.length
  | [], _ => rfl
  | x :: xs, n => by simp [enumD, enumD_len xs (n + 1)]
theorem itrep_e {K : PySem.W.Frag} {F : Hp} {k : Bool} {a : Addr} {vs : List V} {xs : List D} (h1 : F a = some (if k = true then .lst vs else .tup vs)) (r1 : Reps K F vs xs) : ItRep K (ItE K k a) F (enumD 0 xs) := fun F' H e1 e2 => by
  have s1 : SqK K k H a vs := sqk_of (e2 _ _ (e1 _ _ h1))
  refine ⟨fun i d hd => ?_, ⟨vs, s1, by rw [enumD_len, r1.length]⟩⟩
  obtain ⟨x, hx, rfl⟩ := enumD_get hd
  obtain ⟨v, hv, rv⟩ := r1.get hx
  refine ⟨⟨vs, v, s1, hv⟩, fun z H' q => ?_⟩
  obtain ⟨T, v', rfl, hT, rfl, f1⟩ := q
  have ev : v' = v := Option.some.inj ((f1 _ s1).symm.trans hv)
  subst ev
  have hn : F' T = none := e2.free hT
  rw [Nat.zero_add]
  exact ⟨_, .new hT (.tup upd_same (.cons (.int _) (.cons ((rv.mono e1).mono (same_new hn)) .nil)))⟩
def jE (T : TAp) : TAp := fun ρ Q => T ρ fun ds ρ1 => match ds with | [x] => asSeq x fun xs => Q (enumD 0 xs) ρ1 | _ => False
theorem ppi_e {e : Expr} {ta : TA} {TA' : TAp} {p tpos : Pos} {elts : List Expr} {kk : Nat} (hg : Gl X "enumerate") (hm : X.mg "enumerate" = none) (ha : PPA X [e] ta TA') (hs : starEach [e] X.env = [(false, eval e X.env)] := by rfl) :
    PPI X (.Tuple elts kk tpos) (.Call (.Name "enumerate" p) [e] [] pos) (iE X.K ta) (jE TA') := ⟨pi_e hg hm ha.pa hs, fun G F H σ ρ Q R S h k =>
  ha.snd G F H σ ρ _ _ S h fun vs ds F' H' ρ' u S' rv q => by
    match ds, rv, q with
    | [x], .cons rx .nil, q =>
      obtain ⟨a, k1, ws, xs, rfl, h1, r1, q⟩ := rx.seq q
      exact ⟨k1, a, ws, rfl, sqk_of (S'.hF _ _ h1), k _ _ F' H' ρ' u S' (itrep_e h1 r1) q⟩⟩
end
def forW (g : TGp) (tb : TSp) (P : PEnds) : List D → Ro → Prop
  | [], ρ => P.nx ρ
  | d :: ds, ρ => g d ρ fun ρ1 => tb { P with nx := forW g tb P ds, ct := forW g tb P ds, bk := P.nx } ρ1
def pFor (Ti : TAp) (g : TGp) (tb : TSp) : TSp := fun P ρ => Ti ρ fun ds ρ1 => forW g tb P ds ρ1
theorem snd_for {K : PySem.W.Frag} {wi : TI} {Ti : TAp} {g : TG} {Gp : TGp} {is : List Nat} {tb : TS} {Tb : TSp} (hi : SndI K wi Ti) (hg : SndG K g Gp is) (hb : SndS K tb Tb) : SndS K (tFor wi g tb) (pFor Ti Gp Tb) := fun G F H σ ρ P D S h r =>
  hi G F H σ ρ _ _ S h fun J ds F1 H1 ρ1 u1 S1 J1 w1 => by
    refine ⟨fun i m σ' H' => m + i = ds.length ∧ ∃ F' ρ', Up G F1 F' ∧ Sim K G F' H' σ' ρ' ∧ forW Gp Tb P (ds.drop i) ρ', ⟨ds.length, by omega, F1, ρ1, .refl _ _, S1, w1⟩, fun i m σ' H' hW => ?_⟩
    obtain ⟨hm, F', ρ', u', S', w'⟩ := hW
    have J' := J1 F' H' u'.ex S'.hF
    by_cases hlt : i < ds.length
    · refine .inr ⟨(J'.1 i ds[i] (List.getElem?_eq_getElem hlt)).1, fun σ'' H'' => ∃ F'' ρ'', Up G F1 F'' ∧ Sim K G F'' H'' σ'' ρ'' ∧ forW Gp Tb P (ds.drop (i + 1)) ρ'', fun σ'' H'' q => ⟨m - 1, by omega, by omega, q⟩, fun x H'' hy => ?_⟩
      obtain ⟨F2, res⟩ := (J'.1 i ds[i] (List.getElem?_eq_getElem hlt)).2 x H'' hy
      obtain ⟨u2, S2, r2⟩ := S'.res res
      rw [List.drop_eq_getElem_cons hlt] at w'
      refine hg G F2 H'' σ' ρ' _ _ x _ S2 r2 w' fun F3 H3 σ3 ρ3 u3 S3 _ _ q3 => hb G F3 H3 σ3 ρ3 _ _ S3 q3 ?_
      have up := (u'.trans u2).trans u3
      exact ⟨fun F4 H4 σ4 ρ4 u4 S4 q4 => ⟨F4, ρ4, up.trans u4, S4, q4⟩, fun F4 H4 σ4 ρ4 v c u4 S4 q4 => r.rt F4 H4 σ4 ρ4 v c (u1.trans (up.trans u4)) S4 q4,
        fun F4 H4 σ4 ρ4 u4 S4 q4 => r.nx F4 H4 σ4 ρ4 (u1.trans (up.trans u4)) S4 q4, fun F4 H4 σ4 ρ4 u4 S4 q4 => ⟨F4, ρ4, up.trans u4, S4, q4⟩⟩
    · have e : i = ds.length := by omega
      subst e
      rw [List.drop_length] at w'
      exact .inl ⟨J'.2, r.nx F' H' σ' ρ' (u1.trans u') S' w'⟩
theorem pps_for {X : Cx} {tg iter : Expr} {body : List Stmt} {wi : TI} {Ti : TAp} {g : TG} {Gp : TGp} {is : List Nat} {tb : TS} {Tb : TSp} {pos : Pos} (hp : PassesOwn (model X.prog X.w) X.A X.env X.xe) (hc : X.calm = true) (hi : PPI X tg iter wi Ti) (hg : PTg X tg g Gp is) (hb : PPSs X body tb Tb)
    (hs : ∀ x, foldedSetIterable iter X.env x = pure x := by intro _; rfl) : PPS X (.For tg iter body [] pos) (tFor wi g tb) (pFor Ti Gp Tb) := ⟨ps_for hp hc hi.pi hg.pg hb.ps hs, snd_for hi.snd hg.snd hb.snd⟩
def pWhile (C : TTp) (tb : TSp) : TSp := fun P ρ => ∃ W : Nat → Ro → Prop, (∃ m, W m ρ) ∧ ∀ m ρ, W m ρ → C ρ fun b ρ1 => if b = true then tb { P with nx := fun ρ' => ∃ m', m' < m ∧ W m' ρ', ct := fun ρ' => ∃ m', m' < m ∧ W m' ρ', bk := P.nx } ρ1 else P.nx ρ1
theorem pps_while {X : Cx} {c : Expr} {body : List Stmt} {tc : TT} {C : TTp} {tb : TS} {Tb : TSp} {pos : Pos} (hp : PassesOwn (model X.prog X.w) X.A X.env X.xe) (hc : PPT X c tc C) (hb : PPSs X body tb Tb) : PPS X (.While c body [] pos) (tWhile tc tb) (pWhile C Tb) := ⟨ps_while hp hc.pt hb.ps, fun G F H σ ρ P D S h r => by
  obtain ⟨W, ⟨m, w0⟩, hW⟩ := h
  refine ⟨fun m σ' H' => ∃ F' ρ', Up G F F' ∧ Sim X.K G F' H' σ' ρ' ∧ W m ρ', ⟨m, F, ρ, .refl _ _, S, w0⟩, fun m σ' H' q => ?_⟩
  obtain ⟨F', ρ', u', S', w'⟩ := q
  refine hc.snd G F' H' σ' ρ' _ _ S' (hW m ρ' w') fun b F1 H1 ρ1 u1 S1 q1 => ?_
  cases b with
  | true =>
    refine ite_ti ⟨fun σ2 H2 => ∃ m', m' < m ∧ ∃ F' ρ', Up G F F' ∧ Sim X.K G F' H2 σ2 ρ' ∧ W m' ρ', fun σ2 H2 q => q, hb.snd G F1 H1 σ' ρ1 _ _ S1 (ite_t q1) ?_⟩
    have up := u'.trans u1
    exact ⟨fun F4 H4 σ4 ρ4 u4 S4 ⟨m', l, q4⟩ => ⟨m', l, F4, ρ4, up.trans u4, S4, q4⟩, fun F4 H4 σ4 ρ4 v c u4 S4 q4 => r.rt F4 H4 σ4 ρ4 v c (up.trans u4) S4 q4,
      fun F4 H4 σ4 ρ4 u4 S4 q4 => r.nx F4 H4 σ4 ρ4 (up.trans u4) S4 q4, fun F4 H4 σ4 ρ4 u4 S4 ⟨m', l, q4⟩ => ⟨m', l, F4, ρ4, up.trans u4, S4, q4⟩⟩
  | false => exact ite_fi (r.nx F1 H1 σ' ρ1 (u'.trans u1) S1 (ite_f q1))⟩
end Pl
namespace Pl
open PySem PySem.Spec PyProof.Rows L2
variable [TJ]
def valOnly : Option (Option Cell) → Option Cell
  | some (some (.val d)) => some (.val d)
  | _ => none
def wipeP (ρ : Ro) : List Nat → Ro
  | [] => ρ
  | v :: vs => (wipeP ρ vs).set v none
def restore (ρ0 ρ : Ro) : List Nat → Ro
  | [] => ρ
  | v :: vs => (restore ρ0 ρ vs).set v (valOnly ρ0[v]?)
theorem wipe_get {σ : L2.St} : ∀ {vs : List Nat} {j : Nat}, (wipe σ vs)[j]? = if j ∈ vs ∧ j < σ.length then some none else σ[j]?
  | [], j => by simp [wipe]
  | v :: vs, j => by
    show ((wipe σ vs).set v none)[j]? = _
    by_cases h : v = j
    · subst h
      by_cases hl : v < σ.length
      · rw [List.getElem?_set_self (by rw [wipe_length]; exact hl), if_pos ⟨by simp, hl⟩]
      · rw [List.getElem?_eq_none (by simp [wipe_length]; omega), if_neg (fun q => hl q.2), List.getElem?_eq_none (by omega)]
    · rw [List.getElem?_set_ne h, wipe_get]
      have e : (j ∈ v :: vs) ↔ j ∈ vs := by
        constructor
        · intro q
          rcases List.mem_cons.mp q with q | q
          · exact absurd q.symm h
          · exact q
        · exact List.mem_cons_of_mem _
      simp only [e]
theorem wipe_eq {σ σ2 : L2.St} {vs : List Nat} (hl : σ2.length = σ.length) (h : ∀ j, j ∉ vs → σ2[j]? = (wipe σ vs)[j]?) : wipe σ2 vs = wipe σ vs := by
  apply List.ext_getElem?
  intro j
  rw [wipe_get, wipe_get]
  by_cases hj : j ∈ vs
  · by_cases hlt : j < σ.length
    · rw [if_pos ⟨hj, by omega⟩, if_pos ⟨hj, hlt⟩]
    · rw [if_neg (fun q => hlt (by omega)), if_neg (fun q => hlt q.2), List.getElem?_eq_none (by omega), List.getElem?_eq_none (by omega)]
  · have e := h j hj
    rw [wipe_get, if_neg (fun q => hj q.1)] at e
    rw [if_neg (fun q => hj q.1), if_neg (fun q => hj q.1)]
    exact e
section
variable {K : PySem.W.Frag} {G F H : Hp} {σ : L2.St} {ρ : Ro}
theorem Sim.wipe (S : Sim K G F H σ ρ) : ∀ vs : List Nat, Sim K G F H (L2.wipe σ vs) (wipeP ρ vs)
  | [] => S
  | v :: vs => (Sim.wipe S vs).forget v none
theorem Sim.updFree (S : Sim K G F H σ ρ) {p : Addr} {vs ws : List V} (hH : H p = some (.lst vs)) (hF : F p = none) (hG : G p = none) (hn : NotOwn ρ p) : Sim K G F (upd H p (.lst ws)) σ ρ where
  hF := fun a x e => by rw [upd_ne (ne_of_none e hF)]; exact S.hF a x e
  hG := S.hG.mut hG hH
  len := S.len
  val := S.val
  own := fun i a xs e => by
    obtain ⟨h1, h2, h3, vs, h4, h5⟩ := S.own i a xs e
    have q : a ≠ p := fun z => by subst z; exact hn.1 i xs e
    exact ⟨h1, h2, h3, vs, by rw [upd_ne q]; exact h4, h5⟩
  ne := S.ne
  bx := S.bx.upd' hn.2
theorem Sim.guard (S : Sim K G F H σ ρ) {p : Addr} {vs : List V} (hH : H p = some (.lst vs)) (hn : NotOwn ρ p) : Sim K (upd G p (.lst vs)) F H σ ρ where
  hF := S.hF
  hG := S.hG.guard hH
  len := S.len
  val := S.val
  own := fun i a xs e => by
    obtain ⟨h1, h2, h3, h4⟩ := S.own i a xs e
    have q : a ≠ p := fun z => by subst z; exact hn.1 i xs e
    exact ⟨h1, h2, by rw [upd_ne q]; exact h3, h4⟩
  ne := S.ne
  bx := S.bx.guard hn.2
theorem restore_len (ρ0 ρ : Ro) : ∀ vs : List Nat, (restore ρ0 ρ vs).length = ρ.length
  | [] => rfl
  | v :: vs => by simp [restore, restore_len ρ0 ρ vs]
theorem restore_get {ρ0 ρ : Ro} {c : Cell} : ∀ {vs : List Nat} {j : Nat}, (restore ρ0 ρ vs)[j]? = some (some c) → (j ∈ vs ∧ ∃ d, c = .val d ∧ ρ0[j]? = some (some (.val d))) ∨ (j ∉ vs ∧ ρ[j]? = some (some c))
  | [], j, h => .inr ⟨by simp, h⟩
  | v :: vs, j, h => by
    by_cases hv : v = j
    · subst hv
      refine .inl ⟨by simp, ?_⟩
      have hl : v < (restore ρ0 ρ vs).length := by
        have := lt_of_get h
        simpa [restore] using this
      have h' : ((restore ρ0 ρ vs).set v (valOnly ρ0[v]?))[v]? = some (some c) := h
      rw [List.getElem?_set_self hl] at h'
      have h'' : valOnly ρ0[v]? = some c := Option.some.inj h'
      cases e : ρ0[v]? with
      | none => rw [e] at h''; cases h''
      | some x =>
        rw [e] at h''
        cases x with
        | none => cases h''
        | some y =>
          cases y with
          | val d => cases h''; exact ⟨d, rfl, rfl⟩
          | own a xs => cases h''
          | box t => cases h''
    · have h' : ((restore ρ0 ρ vs).set v (valOnly ρ0[v]?))[j]? = some (some c) := h
      rw [List.getElem?_set_ne hv] at h'
      rcases restore_get h' with ⟨q, r⟩ | ⟨q, r⟩
      · exact .inl ⟨List.mem_cons_of_mem _ q, r⟩
      · refine .inr ⟨fun z => ?_, r⟩
        rcases List.mem_cons.mp z with z | z
        · exact hv z.symm
        · exact q z
theorem Sim.restore {G' F1 H1 : Hp} {σ2 : L2.St} {ρ2 : Ro} {vs : List Nat} (S : Sim K G F H σ ρ) (S2 : Sim K G' F1 H1 σ2 ρ2) (hG : Same G G') (hF : Same F F1) (hl : σ2.length = σ.length) (hj : ∀ j, j ∉ vs → σ2[j]? = σ[j]?) : Sim K G F1 H1 σ (restore ρ ρ2 vs) where
  hF := S2.hF
  hG := S2.hG.less hG
  len := by rw [restore_len, ← S2.len, hl]
  val := fun i d e => by
    rcases restore_get e with ⟨q, d', e', r⟩ | ⟨q, r⟩
    · cases e'
      obtain ⟨v, h1, h2⟩ := S.val i d r
      exact ⟨v, h1, h2.mono hF⟩
    · obtain ⟨v, h1, h2⟩ := S2.val i d r
      exact ⟨v, (hj i q).symm.trans h1, h2⟩
  own := fun i a xs e => by
    rcases restore_get e with ⟨q, d', e', r⟩ | ⟨q, r⟩
    · cases e'
    · obtain ⟨h1, h2, h3, h4⟩ := S2.own i a xs r
      exact ⟨(hj i q).symm.trans h1, h2, hG.free h3, h4⟩
  ne := fun i j a xs ys e1 e2 => by
    rcases restore_get e1 with ⟨_, _, e', _⟩ | ⟨_, r1⟩
    · cases e'
    · rcases restore_get e2 with ⟨_, _, e', _⟩ | ⟨_, r2⟩
      · cases e'
      · exact S2.ne i j a xs ys r1 r2
  bx := S2.bx.to (.refl _) (fun p m => ⟨(S2.bx.free m).1, hG.free (S2.bx.free m).2.1, rfl⟩) (fun i s e => by
    rcases restore_get e with ⟨_, _, e', _⟩ | ⟨q, r⟩
    · cases e'
    · exact ⟨r, (hj i q).symm⟩) fun i a xs e => by
    rcases restore_get e with ⟨_, _, e', _⟩ | ⟨q, r⟩
    · cases e'
    · exact .inl ⟨i, xs, r⟩
theorem restore_box {ρ0 ρ : Ro} {vs : List Nat} {p : Addr} : InBox (restore ρ0 ρ vs) p → InBox ρ p := fun ⟨i, s, e, m⟩ => by
  rcases restore_get e with ⟨_, _, e', _⟩ | ⟨q, r⟩
  · cases e'
  · exact ⟨i, s, r, m⟩
end
def lcW (vs : List Nat) (g : TGp) (tt : TTp) (te : TEp) (Q : List D → Ro → Prop) : List D → List D → Ro → Prop
  | [], acc, ρ => Q acc ρ
  | d :: ds, acc, ρ => g d (wipeP ρ vs) fun ρ2 => tt ρ2 fun b ρ3 => if b = true then te ρ3 fun y ρ4 => acc.length < sizeLine ∧ lcW vs g tt te Q ds (acc ++ [y]) (restore ρ ρ4 vs) else lcW vs g tt te Q ds acc (restore ρ ρ3 vs)
def pLcO (Ti : TAp) (g : TGp) (tt : TTp) (te : TEp) (vs : List Nat) : TCp := fun ρ Q => Ti ρ fun ds ρ1 => lcW vs g tt te (fun acc ρ2 => ∀ a, Q (.own a acc) ρ2) ds [] ρ1
def pLc (Ti : TAp) (g : TGp) (tt : TTp) (te : TEp) (vs : List Nat) : TEp := fun ρ Q => Ti ρ fun ds ρ1 => lcW vs g tt te (fun acc ρ2 => Q (.lst acc) ρ2) ds [] ρ1
theorem snd_lc {K : PySem.W.Frag} {wi : TI} {Ti : TAp} {g : TG} {Gp : TGp} {is : List Nat} {tt : TT} {Tt : TTp} {te : TE} {Te : TEp} {vs : List Nat} (hi : SndI K wi Ti) (hg : SndG K g Gp is) (ht : SndT K tt Tt) (he : SndE K te Te) (hsub : ∀ i ∈ is, i ∈ vs) : SndC K (tLc wi g tt te vs) (pLcO Ti Gp Tt Te vs) := fun G F H σ ρ Q R S h k =>
  hi G F H σ ρ _ _ S h fun J ds F1 H1 ρ1 u1 S1 J1 w1 => fun D hD => by
    refine ⟨fun i m H' => m + i = ds.length ∧ ∃ F' ρ' acc, Up G F1 F' ∧ Sim K G F' H' (σ ++ [some (.ref D)]) (ρ' ++ [some (.own D acc)]) ∧ lcW vs Gp Tt Te (fun acc ρ2 => ∀ a, Q (.own a acc) ρ2) (ds.drop i) acc ρ', ⟨ds.length, by omega, F1, ρ1, [], .refl _ _, S1.newOwn hD .nil, w1⟩, fun i m H' hW => ?_⟩
    obtain ⟨hm, F', ρ', acc, u', S0, w'⟩ := hW
    have S' := S0.drop
    obtain ⟨_, hFD, hGD, hnD, av, hHD, rD⟩ := S0.lastOwn
    have J' := J1 F' H' u'.ex S'.hF
    by_cases hlt : i < ds.length
    · refine .inr ⟨(J'.1 i ds[i] (List.getElem?_eq_getElem hlt)).1, fun H'' => ∃ F'' ρ'' acc, Up G F1 F'' ∧ Sim K G F'' H'' (σ ++ [some (.ref D)]) (ρ'' ++ [some (.own D acc)]) ∧ lcW vs Gp Tt Te (fun acc ρ2 => ∀ a, Q (.own a acc) ρ2) (ds.drop (i + 1)) acc ρ'', fun H'' q => ⟨m - 1, by omega, by omega, q⟩, fun x H'' hy => ?_⟩
      obtain ⟨F2, res⟩ := (J'.1 i ds[i] (List.getElem?_eq_getElem hlt)).2 x H'' hy
      have Sg : Sim K (upd G D (.lst av)) F' H' σ ρ' := S'.guard hHD hnD
      obtain ⟨u2, S2, r2⟩ := Sg.res res
      have hGG : Same G (upd G D (.lst av)) := same_new hGD
      rw [List.drop_eq_getElem_cons hlt] at w'
      refine hg (upd G D (.lst av)) F2 H'' (wipe σ vs) (wipeP ρ' vs) _ _ x _ (S2.wipe vs) r2 w' fun F3 H3 σ3 ρ3 u3 S3 o3 l3 q3 => ?_
      have hl3 : σ3.length = σ.length := by rw [l3, wipe_length]
      have ho3 : ∀ j, j ∉ vs → σ3[j]? = (wipe σ vs)[j]? := fun j hj => o3 j fun z => hj (hsub j z)
      have hoσ : ∀ j, j ∉ vs → σ3[j]? = σ[j]? := fun j hj => by rw [ho3 j hj, wipe_get, if_neg (fun q => hj q.1)]
      refine ⟨wipe_eq hl3 ho3, ht (upd G D (.lst av)) F3 H3 σ3 ρ3 _ _ S3 q3 fun b F4 H4 ρ4 u4 S4 q4 => ?_⟩
      cases b with
      | true =>
        refine ite_ti (he (upd G D (.lst av)) F4 H4 σ3 ρ4 _ _ S4 (ite_t q4) fun y dy F5 H5 ρ5 u5 S5 r5 q5 => ?_)
        have up := ((u2.trans u3).trans u4).trans u5
        have hH5 : H5 D = some (.lst av) := S5.hG D _ upd_same
        have hF5 : F5 D = none := up.isNone hFD upd_same
        have S6 : Sim K G F5 H5 σ (Pl.restore ρ' ρ5 vs) := S'.restore S5 hGG up.ex hl3 hoσ
        have hn6 : NotOwn (Pl.restore ρ' ρ5 vs) D := ⟨fun j xs e => (by
          rcases restore_get e with ⟨_, _, e', _⟩ | ⟨_, r⟩
          · cases e'
          · have := (S5.own j D xs r).2.2.1
            rw [upd_same] at this; cases this), fun m => S5.bx.notG upd_same (restore_box m)⟩
        have r6 : Reps K F5 (av ++ [y]) (acc ++ [dy]) := (rD.mono up.ex).append (.one r5)
        refine ⟨av, hH5, by rw [rD.length]; exact q5.1, F5, _, acc ++ [dy], u'.trans (up.less hGG), ?_, q5.2⟩
        exact (S6.updFree hH5 hF5 hGD hn6).pushOwn upd_same hF5 hGD hn6 r6
      | false =>
        refine ite_fi ⟨F4, _, acc, u'.trans (((u2.trans u3).trans u4).less hGG), ?_, ite_f q4⟩
        have up := (u2.trans u3).trans u4
        have hH4 : H4 D = some (.lst av) := S4.hG D _ upd_same
        have hF4 : F4 D = none := up.isNone hFD upd_same
        have S6 : Sim K G F4 H4 σ (Pl.restore ρ' ρ4 vs) := S'.restore S4 hGG up.ex hl3 hoσ
        have hn6 : NotOwn (Pl.restore ρ' ρ4 vs) D := ⟨fun j xs e => (by
          rcases restore_get e with ⟨_, _, e', _⟩ | ⟨_, r⟩
          · cases e'
          · have := (S4.own j D xs r).2.2.1
            rw [upd_same] at this; cases this), fun m => S4.bx.notG upd_same (restore_box m)⟩
        exact S6.pushOwn hH4 hF4 hGD hn6 (rD.mono up.ex)
    · have e : i = ds.length := by omega
      subst e
      rw [List.drop_length] at w'
      exact .inl ⟨J'.2, k _ _ F' H' ρ' (u1.trans u') S0 (w' D)⟩
structure PPTs (X : Cx) (ifs : List Expr) (t : TT) (T : TTp) : Prop where
  pt : PTs X ifs t
  snd : SndT X.K t T
def pYes : TTp := fun ρ Q => Q true ρ
theorem ppts_nil {X : Cx} : PPTs X [] tYes pYes := ⟨pts_nil, fun G F H σ ρ Q R S h k => k true F H ρ (.refl _ _) S h⟩
section
variable {X : Cx} {elt tg iter : Expr} {ifs : List Expr} {scope : Scope} {own : List (Str × Nat)} {pos : Pos} {wi : TI} {Ti : TAp} {g : TG} {Gp : TGp} {is : List Nat} {tt : TT} {Tt : TTp} {te : TE} {Te : TEp} {vs : List Nat}
theorem ppc_lc (hc : X.calm = true) (hN : X.N.Nodup) (hi : PPI X tg iter wi Ti) (ok : BlkOk X.N X.env.scope scope own)
    (hg : ∀ (s : Shared) (H : Hp) (C : Addr) (cl : List (Str × Addr)) (fp : List Addr), PTg (X.blk s H scope (compEnvC scope cl C X.env) fp) tg g Gp is) (ht : ∀ (s : Shared) (H : Hp) (C : Addr) (cl : List (Str × Addr)) (fp : List Addr), PPTs (X.blk s H scope (compEnvC scope cl C X.env) fp) ifs tt Tt)
    (he : ∀ (s : Shared) (H : Hp) (C : Addr) (cl : List (Str × Addr)) (fp : List Addr), PPE (X.blk s H scope (compEnvC scope cl C X.env) fp) elt te Te) (hs : ∀ x, foldedSetIterable iter X.env x = pure x := by intro _; rfl) (hsub : ∀ i ∈ is, i ∈ own.map (·.2) := by decide) :
    PPC X (.ListComp elt [⟨tg, iter, ifs, 0⟩] scope pos) (tLc wi g tt te (own.map (·.2))) (pLcO Ti Gp Tt Te (own.map (·.2))) := by
  refine ⟨pe_lc hc hN hi.pi ok (fun s H C cl fp => (hg s H C cl fp).pg) (fun s H C cl fp => (ht s H C cl fp).pt) (fun s H C cl fp => (he s H C cl fp).pe) hs, ?_⟩
  exact snd_lc hi.snd (hg X.s_0 (fun _ => none) 0 [] []).snd (ht X.s_0 (fun _ => none) 0 [] []).snd (he X.s_0 (fun _ => none) 0 [] []).snd hsub
theorem snd_lcV {K : PySem.W.Frag} {t : TE} (h : SndC K t (pLcO Ti Gp Tt Te vs)) : SndE K t (pLc Ti Gp Tt Te vs) := fun G F H σ ρ Q R S hT k => h G F H σ ρ (fun c ρ' => Q c.froz ρ') R S (by
    unfold pLcO
    unfold pLc at hT
    have e : (fun (acc : List D) (ρ2 : Ro) => ∀ a : Addr, Q (Cell.froz (.own a acc)) ρ2) = fun acc ρ2 => Q (.lst acc) ρ2 := by
      funext acc ρ2
      exact propext ⟨fun q => q 0, fun q _ => q⟩
    show Ti ρ fun ds ρ1 => lcW vs Gp Tt Te (fun acc ρ2 => ∀ a : Addr, Q (Cell.froz (.own a acc)) ρ2) ds [] ρ1
    rw [e]
    exact hT) fun v c F' H' ρ' u S' q => by
  obtain ⟨F2, u2, S2, r2⟩ := S'.froz
  exact k v _ F2 H' ρ' (u.trans u2) S2 r2 q
theorem ppe_lc (hc : X.calm = true) (hN : X.N.Nodup) (hi : PPI X tg iter wi Ti) (ok : BlkOk X.N X.env.scope scope own)
    (hg : ∀ (s : Shared) (H : Hp) (C : Addr) (cl : List (Str × Addr)) (fp : List Addr), PTg (X.blk s H scope (compEnvC scope cl C X.env) fp) tg g Gp is) (ht : ∀ (s : Shared) (H : Hp) (C : Addr) (cl : List (Str × Addr)) (fp : List Addr), PPTs (X.blk s H scope (compEnvC scope cl C X.env) fp) ifs tt Tt)
    (he : ∀ (s : Shared) (H : Hp) (C : Addr) (cl : List (Str × Addr)) (fp : List Addr), PPE (X.blk s H scope (compEnvC scope cl C X.env) fp) elt te Te) (hs : ∀ x, foldedSetIterable iter X.env x = pure x := by intro _; rfl) (hsub : ∀ i ∈ is, i ∈ own.map (·.2) := by decide) :
    PPE X (.ListComp elt [⟨tg, iter, ifs, 0⟩] scope pos) (tLc wi g tt te (own.map (·.2))) (pLc Ti Gp Tt Te (own.map (·.2))) := by
  have h := ppc_lc (pos := pos) hc hN hi ok hg ht he hs hsub
  exact ⟨h.pe, snd_lcV h.snd⟩
end
end Pl
namespace Pl
open PySem PySem.Spec PyProof.Rows L2
variable [TJ]
section
variable {X : Cx} {a b : Expr} {ta tb : TE} {Ta Tb : TEp} {pos : Pos}
theorem Reps.atI {K : PySem.W.Frag} {F : Hp} {vs : List V} {ds : List D} {i : Int} {d : D} (r : Reps K F vs ds) (h : atI ds i = some d) : ∃ v, L2.atI vs i = some v ∧ Rep K F v d := by
  unfold L2.atI at h ⊢
  rw [r.length]
  cases e : ixN ds.length i with
  | none => rw [e] at h; cases h
  | some j => rw [e] at h; exact r.get h
theorem atI_ints {ns : List Int} {i n : Int} (h : L2.atI ns i = some n) : L2.atI (ns.map V.int) i = some (V.int n) := by
  unfold L2.atI at h ⊢
  rw [List.length_map]
  cases e : ixN ns.length i with
  | none => rw [e] at h; cases h
  | some j =>
    rw [e] at h
    show (ns.map V.int)[j]? = some (V.int n)
    have h' : ns[j]? = some n := h
    rw [List.getElem?_map, h']; rfl
def rIxA (K : PySem.W.Frag) : R2 := fun x y H Q => rIxL K x y H Q ∨ (rIxT K x y H Q ∨ rIxS x y H Q)
theorem ix_any : IxR X (rIxA X.K) := IxR.or ix_list (IxR.or ix_tup ix_str)
def fIx : F2 := fun x y Q => match x, y with
  | .lst xs, .int i => ∃ v, atI xs i = some v ∧ Q v
  | .tup xs, .int i => ∃ v, atI xs i = some v ∧ Q v
  | .scr ns, .int i => ∃ n, atI ns i = some n ∧ Q (.int n)
  | .str z, .int i => z.length ≤ sizeLine ∧ ∃ c, atI z.cps.toList i = some c ∧ Q (.str ⟨#[c]⟩)
  | _, _ => False
theorem opp_ix {K : PySem.W.Frag} : OpP K (rIxA K) fIx := fun F H x y dx dy Q R hs rx ry hf k => by
  cases rx with
  | lst h1 r1 =>
    cases ry with
    | int i =>
      obtain ⟨d, e, q⟩ := hf
      obtain ⟨v, e', r⟩ := r1.atI e
      exact .inl ⟨_, _, i, v, rfl, rfl, SqL.of (hs _ _ h1), e', k _ _ _ _ (.old r) q⟩
    | _ => exact hf.elim
  | tup h1 r1 =>
    cases ry with
    | int i =>
      obtain ⟨d, e, q⟩ := hf
      obtain ⟨v, e', r⟩ := r1.atI e
      exact .inr (.inl ⟨_, _, i, v, rfl, rfl, SqT.of (hs _ _ h1), e', k _ _ _ _ (.old r) q⟩)
    | _ => exact hf.elim
  | scr h1 =>
    cases ry with
    | int i =>
      obtain ⟨n, e, q⟩ := hf
      exact .inl ⟨_, _, i, _, rfl, rfl, hs.seq h1, atI_ints e, k _ _ _ _ (.old (.int _)) q⟩
    | _ => exact hf.elim
  | str z =>
    cases ry with
    | int i =>
      obtain ⟨hz, c, e, q⟩ := hf
      exact .inr (.inr ⟨z, i, c, rfl, rfl, hz, e, k _ _ _ _ (.old (.str _)) q⟩)
    | _ => exact hf.elim
  | _ => exact hf.elim
theorem ppe_ix (ha : PPE X a ta Ta) (hb : PPE X b tb Tb) (hs : PlainIx b := by exact fun _ _ => rfl) : PPE X (.Subscript a b pos) (tOp (rIxA X.K) ta tb) (pOp fIx Ta Tb) := ⟨pe_ix ix_any ha.pe hb.pe hs, snd_op opp_ix ha.snd hb.snd⟩
def pIxO (i : Nat) (Tb : TEp) : TEp := fun ρ Q => match ρ[i]? with
  | some (some (.own a _)) => Tb ρ fun y ρ1 => ∃ xs1 k v, ρ1[i]? = some (some (.own a xs1)) ∧ y = .int k ∧ atI xs1 k = some v ∧ Q v ρ1
  | some (some (.val d)) => Tb ρ fun y ρ1 => fIx d y fun z => Q z ρ1
  | _ => False
theorem ppe_ixO (i : Nat) {x : Str} {p : Pos} (hb : PPE X b tb Tb) (hs : PlainIx b := by exact fun _ _ => rfl) (hN : X.N[i]? = some x := by rfl) (hv : Vis X.env.scope x := by first | exact Or.inl rfl | exact Or.inr (Or.inl rfl) | exact Or.inr (Or.inr rfl)) (hd : (x == ("__debug__" : Str)) = false := by decide)
    (hcd : (x == ("__classdict__" : Str)) = false := by decide) : PPE X (.Subscript (.Name x p) b pos) (tOp (rIxA X.K) (tVar i) tb) (pIxO i Tb) := ⟨pe_ix ix_any (pe_var hN hv hd hcd) hb.pe hs, fun G F H σ ρ Q R S hT k => by
  unfold pIxO at hT
  split at hT
  · rename_i a xs e
    refine ⟨.ref a, (S.own i a xs e).1, hb.snd G F H σ ρ _ _ S hT fun y dy F1 H1 ρ1 u1 S1 r1 q1 => ?_⟩
    obtain ⟨xs1, kk, v, e1, rfl, e2, q⟩ := q1
    obtain ⟨h1, h2, h3, vs, h4, h5⟩ := S1.own i a xs1 e1
    obtain ⟨w, ew, rw'⟩ := h5.atI e2
    cases r1
    exact .inl ⟨a, vs, kk, w, rfl, rfl, SqL.of h4, ew, k _ _ F1 H1 ρ1 u1 S1 rw' q⟩
  · rename_i d e
    obtain ⟨v, h1, h2⟩ := S.val i d e
    refine ⟨v, h1, hb.snd G F H σ ρ _ _ S hT fun y dy F1 H1 ρ1 u1 S1 r1 q1 => ?_⟩
    refine opp_ix F1 H1 v y d dy _ _ S1.hF (h2.mono u1.ex) r1 q1 fun w dw F2 H2 res q => ?_
    obtain ⟨u2, S2, r2⟩ := S1.res res
    exact k w dw F2 H2 ρ1 (u1.trans u2) S2 r2 q
  · exact hT.elim⟩
theorem Reps.cut {K : PySem.W.Frag} {F : Hp} {vs : List V} {ds : List D} (r : Reps K F vs ds) (lo hi : Option Int) : Reps K F (cutV vs lo hi) ((ds.drop (HT.sIx ds.length 0 lo)).take (HT.sIx ds.length ds.length hi - HT.sIx ds.length 0 lo)) := by
  unfold cutV
  rw [r.length]
  exact (r.drop _).take _
abbrev TOp := Ro → (Option Int → Ro → Prop) → Prop
def pNoPart : TOp := fun ρ Q => Q none ρ
def pPart (T : TEp) : TOp := fun ρ Q => T ρ fun x ρ1 => match x with | .int i => Q (some i) ρ1 | _ => False
def SndO (K : PySem.W.Frag) (t : TO) (T : TOp) : Prop := ∀ (G F H : Hp) (σ : L2.St) (ρ : Ro) (Q : Option Int → Ro → Prop) (R : Option Int → Hp → Prop), Sim K G F H σ ρ → T ρ Q →
  (∀ o F' H' ρ', Up G F F' → Sim K G F' H' σ ρ' → Q o ρ' → R o H') → t σ H R
structure PPO (X : Cx) (e : Option Expr) (t : TO) (T : TOp) : Prop where
  po : PO X e t
  snd : SndO X.K t T
theorem ppo_none : PPO X none tNoPart pNoPart := ⟨po_none, fun G F H σ ρ Q R S h k => k none F H ρ (.refl _ _) S h⟩
theorem ppo_some (h : PPE X a ta Ta) : PPO X (some a) (tPart ta) (pPart Ta) := ⟨po_some h.pe, fun G F H σ ρ Q R S hT k => h.snd G F H σ ρ _ _ S hT fun v d F' H' ρ' u S' r q => by
  cases r with
  | int i => exact ⟨i, rfl, k _ F' H' ρ' u S' q⟩
  | _ => exact q.elim⟩
def fRev (x : D) (Q : D → Prop) : Prop := match x with
  | .lst xs => Q (.lst xs.reverse)
  | .tup xs => Q (.tup xs.reverse)
  | _ => False
theorem ppe_rev {k : Nat} {p1 p2 p3 : Pos} (ha : PPE X a ta Ta) : PPE X (.Subscript a (.Slice none none (some (.UnaryOp .USub (.Constant (.int 1) k p1) p2)) p3) pos) (tRevA X.K ta) (pUn fRev Ta) := ⟨pe_revA ha.pe, fun G F H σ ρ Q R S hT kk =>
  ha.snd G F H σ ρ _ _ S hT fun v d F1 H1 ρ1 u1 S1 r1 q1 => by
    cases r1 with
    | lst e r => exact ⟨_, _, rfl, .inl ⟨SqL.of (S1.hF _ _ e), fun p hp => kk _ _ _ _ ρ1 (u1.trans (S1.upNew hp)) (S1.new hp) (.lst upd_same (r.mono (same_new (S1.freshF hp))).reverse) q1⟩⟩
    | tup e r => exact ⟨_, _, rfl, .inr ⟨SqT.of (S1.hF _ _ e), fun p hp => kk _ _ _ _ ρ1 (u1.trans (S1.upNew hp)) (S1.new hp) (.tup upd_same (r.mono (same_new (S1.freshF hp))).reverse) q1⟩⟩
    | _ => exact q1.elim⟩
abbrev FC := List D → (D → Prop) → Prop
theorem Reps.inv1 {K : PySem.W.Frag} {F : Hp} {vs : List V} {d : D} (r : Reps K F vs [d]) : ∃ v, vs = [v] ∧ Rep K F v d := by
  cases r with | cons h t => cases t; exact ⟨_, rfl, h⟩
theorem Rep.lstInv {K : PySem.W.Frag} {F : Hp} {v : V} {xs : List D} (r : Rep K F v (.lst xs)) : ∃ a vs, v = .ref a ∧ F a = some (.lst vs) ∧ Reps K F vs xs := by
  cases r with | lst e r => exact ⟨_, _, rfl, e, r⟩
theorem Rep.tupInv {K : PySem.W.Frag} {F : Hp} {v : V} {xs : List D} (r : Rep K F v (.tup xs)) : ∃ a vs, v = .ref a ∧ F a = some (.tup vs) ∧ Reps K F vs xs := by
  cases r with | tup e r => exact ⟨_, _, rfl, e, r⟩
theorem Rep.intInv {K : PySem.W.Frag} {F : Hp} {v : V} {i : Int} (r : Rep K F v (.int i)) : v = .int i := by cases r; rfl
theorem Rep.blInv {K : PySem.W.Frag} {F : Hp} {v : V} {i : Bool} (r : Rep K F v (.bl i)) : v = .bl i := by cases r; rfl
theorem Rep.strInv {K : PySem.W.Frag} {F : Hp} {v : V} {i : Str} (r : Rep K F v (.str i)) : v = .str i := by cases r; rfl
theorem Rep.scrInv {K : PySem.W.Frag} {F : Hp} {v : V} {ns : List Int} (r : Rep K F v (.scr ns)) : ∃ a, v = .ref a ∧ SqL K F a (ns.map V.int) := by cases r with | scr h => exact ⟨_, rfl, h⟩
def fLen : FC := fun ds Q => match ds with
  | [.lst xs] => Q (.int xs.length)
  | [.tup xs] => Q (.int xs.length)
  | [.scr ns] => Q (.int ns.length)
  | [.str z] => z.length ≤ sizeLine ∧ Q (.int z.length)
  | _ => False
def rLenA (K : PySem.W.Frag) : List V → Hp → VK → Prop := fun xs H Q => (∃ p ys, xs = [.ref p] ∧ (SqL K H p ys ∨ SqT K H p ys) ∧ Q (.int ys.length) H) ∨ (∃ z, xs = [.str z] ∧ z.length ≤ sizeLine ∧ Q (.int z.length) H)
theorem cr_lenA : CallR X (.builtin "len") (rLenA X.K) := CallR.or call_len_seq call_len_str
theorem cp_len {K : PySem.W.Frag} : CallP K (rLenA K) fLen := fun F H xs ds Q R hs r hf k => by
  unfold fLen at hf
  split at hf
  · obtain ⟨v, rfl, q1⟩ := r.inv1
    obtain ⟨a, vs, rfl, e, q2⟩ := q1.lstInv
    exact .inl ⟨a, vs, rfl, .inl (SqL.of (hs _ _ e)), by rw [q2.length]; exact k _ _ _ _ (.old (.int _)) hf⟩
  · obtain ⟨v, rfl, q1⟩ := r.inv1
    obtain ⟨a, vs, rfl, e, q2⟩ := q1.tupInv
    exact .inl ⟨a, vs, rfl, .inr (SqT.of (hs _ _ e)), by rw [q2.length]; exact k _ _ _ _ (.old (.int _)) hf⟩
  · obtain ⟨v, rfl, q1⟩ := r.inv1
    obtain ⟨a, rfl, e⟩ := q1.scrInv
    exact .inl ⟨a, _, rfl, .inl (hs.seq e), by rw [List.length_map]; exact k _ _ _ _ (.old (.int _)) hf⟩
  · obtain ⟨v, rfl, q1⟩ := r.inv1
    have := q1.strInv
    subst this
    exact .inr ⟨_, rfl, hf.1, k _ _ _ _ (.old (.int _)) hf.2⟩
  · exact hf.elim
def pLenO (i : Nat) : TEp := fun ρ Q => match ρ[i]? with
  | some (some (.own _ xs)) => Q (.int xs.length) ρ
  | some (some (.val d)) => fLen [d] fun z => Q z ρ
  | _ => False
theorem ppe_lenO (i : Nat) {x : Str} {p q : Pos} (hg : Gl X "len") (hm : X.mg "len" = none) (hN : X.N[i]? = some x := by rfl) (hv : Vis X.env.scope x := by first | exact Or.inl rfl | exact Or.inr (Or.inl rfl) | exact Or.inr (Or.inr rfl)) (hd : (x == ("__debug__" : Str)) = false := by decide)
    (hcd : (x == ("__classdict__" : Str)) = false := by decide) (he : starEach [.Name x q] X.env = [(false, eval (.Name x q) X.env)] := by rfl) : PPE X (.Call (.Name "len" p) [.Name x q] [] pos) (tCB (rLenA X.K) (tCons (tVar i) tNil)) (pLenO i) := ⟨pe_callB cr_lenA hg hm PySem.boot_len (pa_cons (pe_var hN hv hd hcd) pa_nil (by rw [he]; rfl)) (by decide) (by decide) (by rw [he]; rfl) rfl, fun G F H σ ρ Q R S hT k => by
  unfold pLenO at hT
  split at hT
  · rename_i a xs e
    obtain ⟨h1, h2, h3, vs, h4, h5⟩ := S.own i a xs e
    exact ⟨.ref a, h1, .inl ⟨a, vs, rfl, .inl (SqL.of h4), by rw [h5.length]; exact k _ _ F H ρ (.refl _ _) S (.int _) hT⟩⟩
  · rename_i d e
    obtain ⟨v, h1, h2⟩ := S.val i d e
    refine ⟨v, h1, ?_⟩
    refine cp_len F H [v] [d] _ _ S.hF (.cons h2 .nil) hT fun w dw F2 H2 res q => ?_
    obtain ⟨u2, S2, r2⟩ := S.res res
    exact k w dw F2 H2 ρ u2 S2 r2 q
  · exact hT.elim⟩
def iabs (i : Int) : Int := if i < 0 then -i else i
def fAbs : FC := fun ds Q => match ds with | [.int i] => Q (.int (iabs i)) | _ => False
theorem cp_abs {K : PySem.W.Frag} : CallP K (fun xs H Q => ∃ i, xs = [.int i] ∧ Q (.int (if i < 0 then -i else i)) H) fAbs := fun F H xs ds Q R hs r hf k => by
  unfold fAbs at hf
  split at hf
  · rw [r.int1]
    exact ⟨_, rfl, k _ _ _ _ (.old (.int _)) hf⟩
  · exact hf.elim
def fMin2 : FC := fun ds Q => match ds with | [.int i, .int j] => Q (.int (min i j)) | _ => False
theorem cp_min2 {K : PySem.W.Frag} : CallP K (fun xs H Q => ∃ i j, xs = [.int i, .int j] ∧ Q (.int (if j < i then j else i)) H) fMin2 := fun F H xs ds Q R hs r hf k => by
  unfold fMin2 at hf
  split at hf
  · rename_i i j
    rw [r.int2]
    refine ⟨i, j, rfl, ?_⟩
    rw [show (if j < i then j else i) = min i j by split <;> omega]
    exact k _ _ _ _ (.old (.int _)) hf
  · exact hf.elim
def fInt1 : FC := fun ds Q => match ds with
  | [.int i] => Q (.int i)
  | [.bl b] => Q (.int (if b = true then 1 else 0))
  | _ => False
theorem cp_int1 {K : PySem.W.Frag} : CallP K (fun xs H Q => (∃ i, xs = [.int i] ∧ Q (.int i) H) ∨ ∃ k, xs = [.bl k] ∧ Q (.int (if k then 1 else 0)) H) fInt1 := fun F H xs ds Q R hs r hf k => by
  unfold fInt1 at hf
  split at hf
  · rw [r.int1]; exact .inl ⟨_, rfl, k _ _ _ _ (.old (.int _)) hf⟩
  · obtain ⟨v, rfl, q1⟩ := r.inv1
    have := q1.blInv
    subst this
    exact .inr ⟨_, rfl, k _ _ _ _ (.old (.int _)) hf⟩
  · exact hf.elim
def fAll : FC := fun ds Q => match ds with | [.lst xs] => ∃ bs : List Bool, xs = bs.map D.bl ∧ Q (.bl (bs.all id)) | _ => False
theorem cp_all {K : PySem.W.Frag} : CallP K (rAll K) fAll := fun F H xs ds Q R hs r hf k => by
  unfold fAll at hf
  split at hf
  · obtain ⟨v, rfl, q1⟩ := r.inv1
    obtain ⟨a, vs, rfl, e, q2⟩ := q1.lstInv
    obtain ⟨bs, rfl, q⟩ := hf
    have := q2.bls
    subst this
    exact ⟨a, bs, rfl, SqL.of (hs _ _ e), k _ _ _ _ (.old (.bl _)) q⟩
  · exact hf.elim
def fTup : FC := fun ds Q => match ds with
  | [.lst xs] => Q (.tup xs)
  | [.tup xs] => Q (.tup xs)
  | _ => False
theorem cp_tup {K : PySem.W.Frag} : CallP K (fun xs H Q => ∃ p ys, xs = [.ref p] ∧ ((SqL K H p ys ∧ ∀ l, H l = none → Q (.ref l) (upd H l (.tup ys))) ∨ (SqT K H p ys ∧ Q (.ref p) H))) fTup := fun F H xs ds Q R hs r hf k => by
  unfold fTup at hf
  split at hf
  · obtain ⟨v, rfl, q1⟩ := r.inv1
    obtain ⟨a, vs, rfl, e, q2⟩ := q1.lstInv
    exact ⟨a, vs, rfl, .inl ⟨SqL.of (hs _ _ e), fun l hl => k _ _ _ _ (.new hl (.tup upd_same (q2.mono (same_new (hs.free hl))))) hf⟩⟩
  · obtain ⟨v, rfl, q1⟩ := r.inv1
    obtain ⟨a, vs, rfl, e, q2⟩ := q1.tupInv
    exact ⟨a, vs, rfl, .inr ⟨SqT.of (hs _ _ e), k _ _ _ _ (.old (.tup e q2)) hf⟩⟩
  · exact hf.elim
def fLst : FC := fun ds Q => match ds with
  | [.lst xs] => Q (.lst xs)
  | [.tup xs] => Q (.lst xs)
  | [.scr ns] => Q (.lst (ns.map D.int))
  | _ => False
def rLstA (K : PySem.W.Frag) : List V → Hp → VK → Prop := fun xs H Q => ∃ p ys, xs = [.ref p] ∧ (SqL K H p ys ∨ SqT K H p ys) ∧ ∀ l, H l = none → Q (.ref l) (upd H l (.lst ys))
theorem cp_lst {K : PySem.W.Frag} : CallP K (rLstA K) fLst := fun F H xs ds Q R hs r hf k => by
  unfold fLst at hf
  split at hf
  · obtain ⟨v, rfl, q1⟩ := r.inv1
    obtain ⟨a, vs, rfl, e, q2⟩ := q1.lstInv
    exact ⟨a, vs, rfl, .inl (SqL.of (hs _ _ e)), fun l hl => k _ _ _ _ (.new hl (.lst upd_same (q2.mono (same_new (hs.free hl))))) hf⟩
  · obtain ⟨v, rfl, q1⟩ := r.inv1
    obtain ⟨a, vs, rfl, e, q2⟩ := q1.tupInv
    exact ⟨a, vs, rfl, .inr (SqT.of (hs _ _ e)), fun l hl => k _ _ _ _ (.new hl (.lst upd_same (q2.mono (same_new (hs.free hl))))) hf⟩
  · obtain ⟨v, rfl, q1⟩ := r.inv1
    obtain ⟨a, rfl, e⟩ := q1.scrInv
    exact ⟨a, _, rfl, .inl (hs.seq e), fun l hl => k _ _ _ _ (.new hl (.lst upd_same (Reps.ofInts _))) hf⟩
  · exact hf.elim
end
section
variable {X : Cx} {e : Expr} {te : TE} {Te : TEp} {pos : Pos}
def pAppend (i : Nat) (Te : TEp) : TSp := fun P ρ => match ρ[i]? with
  | some (some (.own a _)) => Te ρ fun y ρ1 => ∃ xs1, ρ1[i]? = some (some (.own a xs1)) ∧ xs1.length < sizeLine ∧ P.nx (ρ1.set i (some (.own a (xs1 ++ [y]))))
  | _ => False
theorem pps_append (i : Nat) {x : Str} {p ap cp : Pos} (he : PPE X e te Te) (hN : X.N[i]? = some x := by rfl) (hv : Vis X.env.scope x := by first | exact Or.inl rfl | exact Or.inr (Or.inl rfl) | exact Or.inr (Or.inr rfl)) (hd : (x == ("__debug__" : Str)) = false := by decide)
    (hcd : (x == ("__classdict__" : Str)) = false := by decide)
    (hbase : attributeBase (.Name x p) "append" X.env (eval (.Name x p) X.env) = eval (.Name x p) X.env := by rfl)
    (hfew : ((backTo cp (starEach [e] X.env)).all (fun x => !x.1) && (backToKw cp (keywordEach [] X.env)).all (fun x => x.1.isSome)
      && decide ([e].length + ([] : List Keyword).length + (if ([] : List Keyword).isEmpty then 0 else 1) < 30)) = true := by rfl)
    (hline : (ap.endLine == cp.line) = true := by rfl) (hs : starEach [e] X.env = (false, eval e X.env) :: starEach [] X.env := by rfl)
    (hsw : swapsWith (.Call (.Attribute (.Name x p) "append" ap) [e] [] cp) none pos.line X.env = pure false := by rfl) :
    PPS X (.Expr (.Call (.Attribute (.Name x p) "append" ap) [e] [] cp) pos) (tDrop (tBM X.K "list" rAppend (tVar i) (tCons te tNil))) (pAppend i Te) := ⟨ps_expr (pe_bm PySem.F.plainAttrs_list PySem.F.slot_list_append PySem.F.type_list_append mt_append (pe_var hN hv hd hcd) (pa_cons he.pe pa_nil hs) hbase hfew hline hs rfl) hsw, fun G F H σ ρ P D S hT r => by
  unfold pAppend at hT
  split at hT
  · rename_i a xs e0
    obtain ⟨h1, h2, h3, vs, h4, h5⟩ := S.own i a xs e0
    refine ⟨.ref a, h1, .inl ⟨rfl, _, SqL.of h4⟩, he.snd G F H σ ρ _ _ S hT fun y dy F1 H1 ρ1 u1 S1 r1 q1 => ?_⟩
    obtain ⟨xs1, e1, hz, q⟩ := q1
    obtain ⟨g1, g2, g3, ws, g4, g5⟩ := S1.own i a xs1 e1
    exact ⟨a, ws, y, rfl, rfl, g4, by rw [g5.length]; exact hz, r.nx F1 _ _ _ u1 (S1.mut e1 (g5.append (.one r1))) q⟩
  · exact hT.elim⟩
def pStore (i : Nat) (Ti Te : TEp) : TSp := fun P ρ => Te ρ fun y ρ1 => match ρ1[i]? with
  | some (some (.own a _)) => Ti ρ1 fun k ρ2 => ∃ xs1 n j, ρ2[i]? = some (some (.own a xs1)) ∧ k = .int n ∧ ixN xs1.length n = some j ∧ P.nx (ρ2.set i (some (.own a (xs1.set j y))))
  | _ => False
theorem pps_store (i : Nat) {x : Str} {p sp : Pos} {ix : Expr} {ti : TE} {Ti : TEp} (hi : PPE X ix ti Ti) (he : PPE X e te Te) (hN : X.N[i]? = some x := by rfl) (hv : Vis X.env.scope x := by first | exact Or.inl rfl | exact Or.inr (Or.inl rfl) | exact Or.inr (Or.inr rfl)) (hd : (x == ("__debug__" : Str)) = false := by decide)
    (hcd : (x == ("__classdict__" : Str)) = false := by decide)
    (ha : ∀ v, assign (.Subscript (.Name x p) ix sp) X.env v = (do
      let ov ← holding [v] (eval (.Name x p) X.env)
      let iv ← holding [v, ov] (eval ix X.env)
      standAt sp
      holding [v, ov, iv] (setItem ov iv v)
      release [v, ov, iv] []) := by intro _; rfl)
    (hs : swapsWithSole [.Subscript (.Name x p) ix sp] e pos.line X.env = pure false := by rfl) (hw : swappedStores [.Subscript (.Name x p) ix sp] e X.env = pure none := by rfl)
    (h1 : (assignEach [.Subscript (.Name x p) ix sp] X.env).map (·.2) = [assign (.Subscript (.Name x p) ix sp) X.env] := by rfl) :
    PPS X (.Assign [.Subscript (.Name x p) ix sp] e pos) (tAsg te (gSub (tVar i) ti rSetL)) (pStore i Ti Te) := ⟨ps_asg he.pe (pg_sub (pe_var hN hv hd hcd) hi.pe set_list ha) hs hw h1, fun G F H σ ρ P D S hT r =>
  he.snd G F H σ ρ _ _ S hT fun y dy F1 H1 ρ1 u1 S1 r1 q1 => by
    have q1' : (match ρ1[i]? with
      | some (some (.own a _)) => Ti ρ1 fun k ρ2 => ∃ xs1 n j, ρ2[i]? = some (some (.own a xs1)) ∧ k = .int n ∧ ixN xs1.length n = some j ∧ P.nx (ρ2.set i (some (.own a (xs1.set j dy))))
      | _ => False) := q1
    split at q1'
    · rename_i a xs e0
      obtain ⟨h1, h2, h3, vs, h4, h5⟩ := S1.own i a xs e0
      refine ⟨.ref a, h1, hi.snd G F1 H1 σ ρ1 _ _ S1 q1' fun w dw F2 H2 ρ2 u2 S2 r2 q2 => ?_⟩
      obtain ⟨xs1, n, j, e1, rfl, ej, q⟩ := q2
      obtain ⟨g1, g2, g3, ws, g4, g5⟩ := S2.own i a xs1 e1
      have := r2.intInv
      subst this
      exact ⟨a, ws, n, j, rfl, rfl, g4, by rw [g5.length]; exact ej, r.nx F2 _ _ _ (u1.trans u2) (S2.mut e1 (g5.set (r1.mono u2.ex) j)) q⟩
    · exact q1'.elim⟩
end
end Pl
namespace Pl
open PySem PySem.Spec PyProof.Rows L2
abbrev FA := List D → (Cell → Prop) → Prop
abbrev FB := List D → List D → (Cell → List D → Prop) → Prop
def hide (H : Hp) (a : Addr) : Hp := fun b => if b = a then none else H b
theorem hide_same (H : Hp) (a : Addr) : Same (hide H a) H := fun b o e => by
  unfold hide at e
  by_cases h : b = a
  · rw [if_pos h] at e; cases e
  · rw [if_neg h] at e; exact e
theorem hide_ne {H : Hp} {a b : Addr} (h : b ≠ a) : hide H a b = H b := by unfold hide; rw [if_neg h]
theorem hide_at {H : Hp} {a : Addr} : hide H a a = none := by unfold hide; rw [if_pos rfl]
def spA (K : PySem.W.Frag) (n : Nat) (f : FA) : Sp := fun vs H Q _ => ∃ (F : Hp) (ds : List D) (C : Cell → Prop), vs.length = n ∧ Same F H ∧ Reps K F vs ds ∧ f ds C ∧
  ∀ v c F' H', Up H F F' → SimR K H F' H' [some v] [some c] → C c → Q v H'
def spB (K : PySem.W.Frag) (n : Nat) (f : FB) : Sp := fun vs H Q _ => ∃ (F : Hp) (a : Addr) (us : List V) (xs : List D) (ws : List V) (ds : List D) (C : Cell → List D → Prop), vs = .ref a :: ws ∧ vs.length = n ∧ Same F H ∧ F a = none ∧ H a = some (.lst us) ∧ Reps K F us xs ∧ Reps K F ws ds ∧ f xs ds C ∧
  ∀ v c xs' F' H', Up (hide H a) F F' → SimR K (hide H a) F' H' [some (.ref a), some v] [some (.own a xs'), some c] → C c xs' → Q v H'
theorem get_one {α : Type} {x y : α} {i : Nat} (h : [x][i]? = some y) : i = 0 ∧ x = y := by
  cases i with
  | zero => exact ⟨rfl, Option.some.inj h⟩
  | succ i => simp at h
section
variable [TJ]
theorem Sim.only {K : PySem.W.Frag} {G F H : Hp} {σ : L2.St} {ρ : Ro} {v : V} {c : Cell} (S : Sim K G F H (σ ++ [some v]) (ρ ++ [some c])) : SimR K G F H [some v] [some c] := by
  refine ⟨S.hF, S.hG.same, rfl, fun i d h => ?_, fun i a xs h => ?_, fun i j a xs ys h1 h2 => ?_, fun i s h => ?_, fun i j s t p h1 h2 _ _ => (get_one h1).1.trans (get_one h2).1.symm, fun j a xs h ⟨i, s, e, _⟩ => ?_⟩
  · obtain ⟨rfl, e⟩ := get_one h
    cases e
    exact ⟨v, rfl, S.lastVal⟩
  · obtain ⟨rfl, e⟩ := get_one h
    cases e
    obtain ⟨rfl, h2, h3, h4, h5⟩ := S.lastOwn
    exact ⟨rfl, h2, h3, h5⟩
  · rw [(get_one h1).1, (get_one h2).1]
  · obtain ⟨rfl, e⟩ := get_one h
    cases e
    obtain ⟨rfl, h2, h3, h4⟩ := S.lastBox
    exact ⟨rfl, h2, h3⟩
  · have h1 := (get_one h).2
    have h2 := (get_one e).2
    rw [h1] at h2
    cases h2
theorem Sim.only2 {K : PySem.W.Frag} {G F H : Hp} {σ : L2.St} {ρ : Ro} {v : V} {c : Cell} {a : Addr} {xs : List D} {i : Nat} (S : Sim K G F H (σ ++ [some v]) (ρ ++ [some c])) (e : ρ[i]? = some (some (.own a xs))) : SimR K G F H [some (.ref a), some v] [some (.own a xs), some c] := by
  obtain ⟨h1, h2, h3, vs, h4, h5⟩ := S.drop.own i a xs e
  have hn : ∀ (b : Addr) (ys : List D), c = .own b ys → b ≠ a := fun b ys z w => by
    subst z w
    exact S.lastOwn.2.2.2.1.1 i xs e
  refine ⟨S.hF, S.hG.same, rfl, fun i d h => ?_, fun i b ys h => ?_, fun i j b ys zs q1 q2 => ?_, fun i s h => ?_, fun i j s t p q1 q2 _ _ => ?_, fun j b ys q ⟨k, s, e2, m⟩ => ?_⟩
  · match i, h with
    | 1, h => have e' : c = .val d := Option.some.inj (Option.some.inj h); subst e'; exact ⟨v, rfl, S.lastVal⟩
  · match i, h with
    | 0, h => cases h; exact ⟨rfl, h2, h3, vs, h4, h5⟩
    | 1, h =>
      have e' : c = .own b ys := Option.some.inj (Option.some.inj h)
      subst e'
      obtain ⟨rfl, g2, g3, g4, g5⟩ := S.lastOwn
      exact ⟨rfl, g2, g3, g5⟩
  · match i, j, q1, q2 with
    | 0, 0, _, _ => rfl
    | 1, 1, _, _ => rfl
    | 0, 1, q1, q2 => cases q1; exact absurd rfl (hn _ zs (Option.some.inj (Option.some.inj q2)))
    | 1, 0, q1, q2 => cases q2; exact absurd rfl (hn _ ys (Option.some.inj (Option.some.inj q1)))
  · match i, h with
    | 1, h =>
      have e' : c = .box s := Option.some.inj (Option.some.inj h)
      subst e'
      obtain ⟨rfl, g2, g3, g4⟩ := S.lastBox
      exact ⟨rfl, g2, g3⟩
  · match i, j, q1, q2 with
    | 1, 1, _, _ => rfl
  · match k, e2 with
    | 1, e2 =>
      have e' : c = .box s := Option.some.inj (Option.some.inj e2)
      subst e'
      obtain ⟨rfl, g2, g3, g4⟩ := S.lastBox
      match j, q with
      | 0, q => cases q; exact (g4 a m).1 _ xs e
      | 1, q => cases q
theorem Sim.afterA {K : PySem.W.Frag} {G F H F' H' : Hp} {σ : L2.St} {ρ : Ro} {v : V} {c : Cell} (S : Sim K G F H σ ρ) (u : Up H F F') (S' : SimR K H F' H' [some v] [some c]) : Sim K G F' H' (σ ++ [some v]) (ρ ++ [some c]) := by
  have base : Sim K G F' H' σ ρ := by
    refine ⟨S'.hF, S.hG.up S'.hG u.out, S.len, fun i d h => ?_, fun i a xs h => ?_, S.ne, S.bx.heap u.ex fun p m => let ⟨f, g, o, e⟩ := S.bx.free m; ⟨u.isNone f e, g, (S'.hG _ _ e).trans e.symm⟩⟩
    · obtain ⟨w, h1, h2⟩ := S.val i d h
      exact ⟨w, h1, h2.mono u.ex⟩
    · obtain ⟨h1, h2, h3, vs, h4, h5⟩ := S.own i a xs h
      exact ⟨h1, u.isNone h2 h4, h3, vs, S'.hG _ _ h4, h5.mono u.ex⟩
  cases c with
  | val d =>
    obtain ⟨w, h1, h2⟩ := S'.val 0 d rfl
    cases h1
    exact base.pushVal h2
  | own a xs =>
    obtain ⟨h1, h2, h3, vs, h4, h5⟩ := S'.own 0 a xs rfl
    cases h1
    exact base.pushOwn h4 h2 (S.hG.free h3) (S.notOwn h3) h5
  | box s =>
    obtain ⟨h1, h2, h3⟩ := S'.bx.box 0 s rfl
    cases h1
    exact base.pushBox (fun p m => ⟨(h2 p m).1, S.hG.free (h2 p m).2⟩) h3 fun p m => S.notOwn (h2 p m).2
theorem Sim.afterB {K : PySem.W.Frag} {G F H F' H' : Hp} {σ : L2.St} {ρ : Ro} {v : V} {c : Cell} {i : Nat} {a : Addr} {xs xs' : List D} (S : Sim K G F H σ ρ) (e : ρ[i]? = some (some (.own a xs))) (u : Up (hide H a) F F') (S' : SimR K (hide H a) F' H' [some (.ref a), some v] [some (.own a xs'), some c]) : Sim K G F' H' (σ ++ [some v]) (ρ.set i (some (.own a xs')) ++ [some c]) := by
  obtain ⟨h1, h2, h3, vs, h4, h5⟩ := S.own i a xs e
  have hi := lt_of_get e
  obtain ⟨_, g2, g3, ws, g4, g5⟩ := S'.own 0 a xs' rfl
  have other : ∀ (j : Nat) (b : Addr) (ys : List D), ρ[j]? = some (some (.own b ys)) → j ≠ i → b ≠ a := fun j b ys q hj z => by
    subst z; exact hj (S.ne _ _ _ _ _ q e)
  have far : ∀ (j : Nat) (x : Cell), (ρ.set i (some (.own a xs')))[j]? = some (some x) → (j = i ∧ x = .own a xs') ∨ (j ≠ i ∧ ρ[j]? = some (some x)) := fun j x q => by
    by_cases hj : i = j
    · subst hj; rw [List.getElem?_set_self hi] at q; cases q; exact .inl ⟨rfl, rfl⟩
    · rw [List.getElem?_set_ne hj] at q; exact .inr ⟨fun z => hj z.symm, q⟩
  have base : Sim K G F' H' σ (ρ.set i (some (.own a xs'))) := by
    refine ⟨S'.hF, ⟨fun b o q => ?_, TJ.step S.hG.tj (fun b o q ne => ?_) fun b o q => ?_⟩, by simpa using S.len, fun j d h => ?_, fun j b ys h => ?_, fun j k b ys zs q1 q2 => ?_, S.bx.to u.ex (fun p m => ?_) (fun j s q => ⟨(set_box (by simp) q).1, rfl⟩) fun j b ys q => (set_own q).elim (fun z => by cases z; exact .inl ⟨i, xs, e⟩) fun q => .inl ⟨j, ys, q⟩⟩
    · have n : b ≠ a := fun z => by subst z; rw [h3] at q; cases q
      exact S'.hG b o (by rw [hide_ne n]; exact S.hG b o q)
    · have n : b ≠ a := fun z => by subst z; rw [h4] at q; exact ne ((Option.some.inj q) ▸ trivial)
      exact S'.hG b o (by rw [hide_ne n]; exact q)
    · rcases u.out b o q with z | z
      · exact .inl z
      · by_cases n : b = a
        · subst n; exact .inr (.inr ⟨_, h4, trivial⟩)
        · rw [hide_ne n] at z; exact .inr (.inl z)
    · rcases far j _ h with ⟨_, z⟩ | ⟨_, h⟩
      · cases z
      · obtain ⟨w, k1, k2⟩ := S.val j d h
        exact ⟨w, k1, k2.mono u.ex⟩
    · rcases far j _ h with ⟨rfl, z⟩ | ⟨hj, h⟩
      · cases z; exact ⟨h1, g2, h3, ws, g4, g5⟩
      · obtain ⟨k1, k2, k3, us, k4, k5⟩ := S.own j b ys h
        have n := other j b ys h hj
        have k4' : hide H a b = some (.lst us) := by rw [hide_ne n]; exact k4
        exact ⟨k1, u.isNone k2 k4', k3, us, S'.hG _ _ k4', k5.mono u.ex⟩
    · rcases far j _ q1 with ⟨f1, z1⟩ | ⟨hj, p1⟩
      · rcases far k _ q2 with ⟨f2, _⟩ | ⟨hk, p2⟩
        · rw [f1, f2]
        · cases z1; exact absurd rfl (other k _ zs p2 hk)
      · rcases far k _ q2 with ⟨f2, z2⟩ | ⟨hk, p2⟩
        · cases z2; exact absurd rfl (other j _ ys p1 hj)
        · exact S.ne _ _ _ _ _ p1 p2
    · obtain ⟨f, g, o, e'⟩ := S.bx.free m
      have e2 : hide H a p = some o := by rw [hide_ne (S.bx.apart m e)]; exact e'
      exact ⟨u.isNone f e2, g, (S'.hG _ _ e2).trans e'.symm⟩
  cases c with
  | val d =>
    obtain ⟨w, k1, k2⟩ := S'.val 1 d rfl
    cases k1
    exact base.pushVal k2
  | own b ys =>
    obtain ⟨k1, k2, k3, us, k4, k5⟩ := S'.own 1 b ys rfl
    cases k1
    have n : b ≠ a := fun z => by subst z; exact absurd (S'.ne 0 1 b xs' ys rfl rfl) (by decide)
    have hb : H b = none := (hide_ne (H := H) n).symm.trans k3
    refine base.pushOwn k4 k2 (S.hG.free hb) ⟨fun j zs q => ?_, fun m => (S.notOwn hb).2 (set_inbox (by simp) m)⟩ k5
    rcases far j _ q with ⟨_, z⟩ | ⟨_, q⟩
    · cases z; exact n rfl
    · obtain ⟨_, _, _, vs', h4', _⟩ := S.own j b zs q
      rw [hb] at h4'; cases h4'
  | box s =>
    obtain ⟨k1, k2, k3⟩ := S'.bx.box 1 s rfl
    cases k1
    have hb : ∀ p ∈ s.foot, H p = none := fun p m => by
      have n : p ≠ a := fun z => by subst z; exact S'.bx.bo 0 p xs' rfl ⟨1, s, rfl, m⟩
      exact (hide_ne (H := H) n).symm.trans (k2 p m).2
    refine base.pushBox (fun p m => ⟨(k2 p m).1, S.hG.free (hb p m)⟩) k3 fun p m => ⟨fun j zs q => ?_, fun z => (S.notOwn (hb p m)).2 (set_inbox (by simp) z)⟩
    rcases far j _ q with ⟨_, z⟩ | ⟨_, q⟩
    · cases z; rw [hb _ m] at h4; cases h4
    · exact (S.notOwn (hb p m)).1 j zs q
end
section
variable [TJ] {X : Cx} {k : Nat} {f : Addr} {fd : FuncData} {ps : List Str} {x : Str} {p pos : Pos} {e : Expr} {es : List Expr} {t : TA} {T : TAp} {n : Nat}
def pCallA (n : Nat) (g : FA) (T : TAp) : TCp := fun ρ Q => T ρ fun ds ρ1 => ds.length = n ∧ g ds fun c => Q c ρ1
theorem ppc_callA {g : FA} (Fn : FnOk X.prog X.w X.K X.mg X.base CX0 k f fd ps (spA X.K n g)) (hr : Room k X.A) (hg : Gl X x) (hm : X.mg x = some (.ref f)) (hk : PySem.W.keepIn X.K (.ref f) = true) (hb : Binds X.K fd ps []) (ha : PPA X (e :: es) t T)
    (hdb : (x == ("__debug__" : Str)) = false := by decide) (he : starEach (e :: es) X.env = (false, eval e X.env) :: starEach es X.env := by rfl) (hpl : (backTo pos (starEach es X.env)).any (·.1) = false := by rfl) :
    PPC X (.Call (.Name x p) (e :: es) [] pos) (tCall (spA X.K n g) [] (fun _ _ _ => False) t) (pCallA n g T) := ⟨pe_call Fn hr hg hm hk hb .nil pass0 ha.pa hdb he hpl, fun G F H σ ρ Q R S hT k =>
  ha.snd G F H σ ρ _ _ S hT fun vs ds F1 H1 ρ1 u1 S1 r1 h1 => by
    show spA X.K n g (vs ++ []) H1 R _
    rw [List.append_nil]
    exact ⟨F1, ds, _, by rw [r1.length]; exact h1.1, S1.hF, r1, h1.2, fun v c F' H' u S' q => k v c F' H' ρ1 (u1.trans (u.less S1.hG)) (S1.afterA u S') q⟩⟩
def pCallB (i n : Nat) (g : FB) (T : TAp) : TCp := fun ρ Q => match ρ[i]? with
  | some (some (.own a _)) => T ρ fun ds ρ1 => ∃ xs1, ρ1[i]? = some (some (.own a xs1)) ∧ ds.length + 1 = n ∧ g xs1 ds fun c xs2 => Q c (ρ1.set i (some (.own a xs2)))
  | _ => False
theorem ppc_callB (i : Nat) {y : Str} {py : Pos} {g : FB} (Fn : FnOk X.prog X.w X.K X.mg X.base CX0 k f fd ps (spB X.K n g)) (hr : Room k X.A) (hg : Gl X x) (hm : X.mg x = some (.ref f)) (hk : PySem.W.keepIn X.K (.ref f) = true) (hb : Binds X.K fd ps []) (ha : PPA X es t T)
    (hN : X.N[i]? = some y := by rfl) (hv : Vis X.env.scope y := by first | exact Or.inl rfl | exact Or.inr (Or.inl rfl) | exact Or.inr (Or.inr rfl)) (hd : (y == ("__debug__" : Str)) = false := by decide) (hcd : (y == ("__classdict__" : Str)) = false := by decide)
    (hdb : (x == ("__debug__" : Str)) = false := by decide) (he : starEach (.Name y py :: es) X.env = (false, eval (.Name y py) X.env) :: starEach es X.env := by rfl) (hpl : (backTo pos (starEach es X.env)).any (·.1) = false := by rfl) :
    PPC X (.Call (.Name x p) (.Name y py :: es) [] pos) (tCall (spB X.K n g) [] (fun _ _ _ => False) (tCons (tVar i) t)) (pCallB i n g T) := ⟨pe_call Fn hr hg hm hk hb .nil pass0 (pa_cons (pe_var hN hv hd hcd) ha.pa he) hdb he hpl, fun G F H σ ρ Q R S hT k => by
  unfold pCallB at hT
  split at hT
  · rename_i a xs e0
    refine ⟨.ref a, (S.own i a xs e0).1, ha.snd G F H σ ρ _ _ S hT fun vs ds F1 H1 ρ1 u1 S1 r1 h1 => ?_⟩
    obtain ⟨xs1, e1, hn, q1⟩ := h1
    obtain ⟨h1, h2, h3, us, h4, h5⟩ := S1.own i a xs1 e1
    show spB X.K n g ((.ref a :: vs) ++ []) H1 R _
    rw [List.append_nil]
    refine ⟨F1, a, us, xs1, vs, ds, _, rfl, by rw [List.length_cons, r1.length]; exact hn, S1.hF, h2, h4, h5, r1, q1, fun v c xs' F' H' u S' q => ?_⟩
    have hGh : Same G (hide H1 a) := fun b o qq => by
      have nb : b ≠ a := fun z => by rw [z, h3] at qq; cases qq
      rw [hide_ne nb]; exact S1.hG b o qq
    exact k v c F' H' _ (u1.trans (u.less hGh)) (S1.afterB e1 u S') q
  · exact hT.elim⟩
end
section
variable {P : Program} {w : World} {K : PySem.W.Frag} {mg : Str → Option Value} {base : Heap} {x qual : Str} {st : Stmt} {f : Addr} {fd : FuncData} {N ps : List Str} {k : Nat}
def startA (N : List Str) (ds : List D) : Ro := ds.map (fun d => some (.val d)) ++ List.replicate (N.length - ds.length) none
def startB (N : List Str) (a : Addr) (xs : List D) (ds : List D) : Ro := some (.own a xs) :: (ds.map (fun d => some (.val d)) ++ List.replicate (N.length - (ds.length + 1)) none)
theorem sim_vals [TJ] {K : PySem.W.Frag} {G F H : Hp} (hF : Same F H) (hG : SameJ G F H) {vs : List V} {ds : List D} (r : Reps K F vs ds) (m : Nat) : Sim K G F H (vs.map some ++ List.replicate m none) (ds.map (fun d => some (.val d)) ++ List.replicate m none) := by
  have key : ∀ (i : Nat) (c : Cell), (ds.map (fun d => some (Cell.val d)) ++ List.replicate m none)[i]? = some (some c) → ∃ d, c = .val d ∧ ds[i]? = some d := fun i c h => by
    rcases Nat.lt_or_ge i ds.length with q | q
    · rw [List.getElem?_append_left (by simpa using q), List.getElem?_map, List.getElem?_eq_getElem q] at h
      exact ⟨ds[i], (Option.some.inj (Option.some.inj h)).symm, List.getElem?_eq_getElem q⟩
    · rw [List.getElem?_append_right (by simpa using q), List.getElem?_replicate] at h
      split at h <;> cases h
  refine ⟨hF, hG, by simp [r.length], fun i d h => ?_, fun i a xs h => ?_, fun i j a xs ys h1 h2 => ?_, .nil fun i s h => by obtain ⟨d, e, _⟩ := key i _ h; cases e⟩
  · obtain ⟨d', e, hd⟩ := key i _ h
    cases e
    obtain ⟨v, hv, rv⟩ := r.get hd
    refine ⟨v, ?_, rv⟩
    have q : i < vs.length := lt_of_get hv
    rw [List.getElem?_append_left (by simpa using q), List.getElem?_map, hv]
    rfl
  · obtain ⟨d', e, _⟩ := key i _ h
    cases e
  · obtain ⟨d', e, _⟩ := key i _ h1
    cases e
theorem Sim.cons_own [TJ] {K : PySem.W.Frag} {G F H : Hp} {σ : L2.St} {ρ : Ro} (S : Sim K G F H σ ρ) {a : Addr} {vs : List V} {xs : List D} (hH : H a = some (.lst vs)) (hF : F a = none) (hG : G a = none) (hn : NotOwn ρ a) (r : Reps K F vs xs) :
    Sim K G F H (some (.ref a) :: σ) (some (.own a xs) :: ρ) := by
  refine ⟨S.hF, S.hG, by simp [S.len], fun i d h => ?_, fun i b ys h => ?_, fun i j b ys zs h1 h2 => ?_, fun i s h => ?_, fun i j s t p h1 h2 m1 m2 => ?_, fun j b ys h ⟨k, s, e, m⟩ => ?_⟩
  · cases i with
    | zero => cases h
    | succ i => exact S.val i d h
  · cases i with
    | zero => cases h; exact ⟨rfl, hF, hG, vs, hH, r⟩
    | succ i => exact S.own i b ys h
  · cases i with
    | zero =>
      cases j with
      | zero => rfl
      | succ j => cases h1; exact absurd h2 (hn.1 j zs)
    | succ i =>
      cases j with
      | zero => cases h2; exact absurd h1 (hn.1 i ys)
      | succ j => rw [S.ne i j b ys zs h1 h2]
  · cases i with
    | zero => cases h
    | succ i => exact S.bx.box i s h
  · cases i with
    | zero => cases h1
    | succ i =>
      cases j with
      | zero => cases h2
      | succ j => rw [S.bx.bb i j s t p h1 h2 m1 m2]
  · cases k with
    | zero => cases e
    | succ k =>
      cases j with
      | zero => cases h; exact hn.2 ⟨k, s, e, m⟩
      | succ j => exact S.bx.bo j b ys h ⟨k, s, e, m⟩
theorem vals_box {ds : List D} {m i : Nat} {s : Sh} : (ds.map (fun d => some (Cell.val d)) ++ List.replicate m none)[i]? ≠ some (some (.box s)) := fun h => by
  rcases Nat.lt_or_ge i ds.length with q | q
  · rw [List.getElem?_append_left (by simpa using q), List.getElem?_map, List.getElem?_eq_getElem q] at h
    cases h
  · rw [List.getElem?_append_right (by simpa using q), List.getElem?_replicate] at h
    split at h <;> cases h
theorem notOwn_vals {ds : List D} {m : Nat} {a : Addr} : NotOwn (ds.map (fun d => some (Cell.val d)) ++ List.replicate m none) a := ⟨fun i xs h => (by
  rcases Nat.lt_or_ge i ds.length with q | q
  · rw [List.getElem?_append_left (by simpa using q), List.getElem?_map, List.getElem?_eq_getElem q] at h
    cases h
  · rw [List.getElem?_append_right (by simpa using q), List.getElem?_replicate] at h
    split at h <;> cases h), fun ⟨i, s, e, _⟩ => vals_box e⟩
theorem okA {g : FA} {T : TSp} (Fn : Fun K x qual st f fd) (S : FnScope N ps (defScope st))
    (hb : ∀ (cdv : Value) (A : Around) (outer : List Env) (s : Shared) (H : Hp) (E : XK), Room k (A.deeper (envOfC qual (defScope st) s.heap.objs.size f cdv)) → ∃ t, PPSs (cxOf CX0 P w K mg base N qual (defScope st) f cdv A outer s H E).nox (defBody st) t T)
    (hT : ∀ ds C, ds.length = ps.length → g ds C → T { nx := fun _ => C (.val .non), rt := fun c _ => C c } (startA N ds)) : FnOk P w K mg base CX0 (k + 1) f fd ps (spA K ps.length g) := by
  refine Fn.ok S (fun vs H Q E h => ?_) (fun cdv A outer s H vs Q E hr h => ?_)
  · obtain ⟨F, ds, C, hl, _⟩ := h
    exact hl
  · obtain ⟨F, ds, C, hl, hF, r, hg, hQ⟩ := h
    obtain ⟨t, ht⟩ := hb cdv A outer s H E hr
    refine ⟨t, ht.ps, ?_⟩
    have S0 : Sim K H F H (L2.start N vs) (startA N ds) := by
      unfold L2.start startA
      rw [r.length]
      exact sim_vals hF (.rfl' F H) r _
    refine ht.snd H F H _ _ _ _ S0 (hT ds C (by rw [← r.length]; exact hl) hg) ⟨fun F' H' σ' ρ' u S' q => ?_, fun F' H' σ' ρ' v c u S' q => hQ v c F' H' u S'.only q, fun _ _ _ _ _ _ q => q, fun _ _ _ _ _ _ q => q⟩
    exact hQ .non (.val .non) F' H' u ((S'.pushVal .non).only) q
theorem okB {g : FB} {T : TSp} (Fn : Fun K x qual st f fd) (S : FnScope N ps (defScope st))
    (hb : ∀ (cdv : Value) (A : Around) (outer : List Env) (s : Shared) (H : Hp) (E : XK), Room k (A.deeper (envOfC qual (defScope st) s.heap.objs.size f cdv)) → ∃ t, PPSs (cxOf CX0 P w K mg base N qual (defScope st) f cdv A outer s H E).nox (defBody st) t T)
    (hT : ∀ a xs ds C, ds.length + 1 = ps.length → g xs ds C → T { nx := fun ρ => ∃ ys, ρ[0]? = some (some (.own a ys)) ∧ C (.val .non) ys, rt := fun c ρ => ∃ ys, ρ[0]? = some (some (.own a ys)) ∧ C c ys } (startB N a xs ds)) : FnOk P w K mg base CX0 (k + 1) f fd ps (spB K ps.length g) := by
  refine Fn.ok S (fun vs H Q E h => ?_) (fun cdv A outer s H vs Q E hr h => ?_)
  · obtain ⟨F, a, us, xs, ws, ds, C, _, hl, _⟩ := h
    exact hl
  · obtain ⟨F, a, us, xs, ws, ds, C, rfl, hl, hF, hFa, hHa, r1, r2, hg, hQ⟩ := h
    obtain ⟨t, ht⟩ := hb cdv A outer s H E hr
    refine ⟨t, ht.ps, ?_⟩
    have S0 : Sim K (hide H a) F H (L2.start N (.ref a :: ws)) (startB N a xs ds) := by
      unfold L2.start startB
      rw [List.length_cons, r2.length]
      exact (sim_vals hF (.of (hide_same H a)) r2 _).cons_own hHa hFa hide_at notOwn_vals r1
    refine ht.snd (hide H a) F H _ _ _ _ S0 (hT a xs ds C (by rw [← r2.length]; exact hl) hg) ⟨fun F' H' σ' ρ' u S' q => ?_, fun F' H' σ' ρ' v c u S' q => ?_, fun _ _ _ _ _ _ q => q, fun _ _ _ _ _ _ q => q⟩
    · obtain ⟨ys, e, q⟩ := q
      exact hQ .non (.val .non) ys F' H' u ((S'.pushVal .non).only2 e) q
    · obtain ⟨ys, e, q⟩ := q
      exact hQ v c ys F' H' u (S'.only2 e) q
end
end Pl
namespace Pl
open PySem PySem.Spec PyProof.Rows L2
variable [TJ]
def liftE (K : PySem.W.Frag) (T : TEp) : TE := fun σ H R => ∃ (G F : Hp) (ρ : Ro) (Q : D → Ro → Prop), Sim K G F H σ ρ ∧ T ρ Q ∧ ∀ v d F' H' ρ', Up G F F' → Sim K G F' H' σ ρ' → Rep K F' v d → Q d ρ' → R v H'
def liftT (K : PySem.W.Frag) (T : TTp) : TT := fun σ H R => ∃ (G F : Hp) (ρ : Ro) (Q : Bool → Ro → Prop), Sim K G F H σ ρ ∧ T ρ Q ∧ ∀ b F' H' ρ', Up G F F' → Sim K G F' H' σ ρ' → Q b ρ' → R b H'
def liftG (K : PySem.W.Frag) (T : TGp) (is : List Nat) : TG := fun v σ H R => ∃ (G F : Hp) (ρ : Ro) (Q : Ro → Prop) (d : D), Sim K G F H σ ρ ∧ Rep K F v d ∧ T d ρ Q ∧ ∀ F' H' σ' ρ', Up G F F' → Sim K G F' H' σ' ρ' → (∀ j, j ∉ is → σ'[j]? = σ[j]?) → σ'.length = σ.length → Q ρ' → R σ' H'
section
variable {X : Cx}
theorem PPE.lift {e : Expr} {t : TE} {T : TEp} (h : PPE X e t T) : PPE X e (liftE X.K T) T :=
  ⟨⟨fun pins s σ H Q I ⟨G, F, ρ, Q', S, hT, k⟩ => h.pe.run pins s σ H Q I (h.snd G F H σ ρ Q' Q S hT k)⟩, fun G F H σ ρ Q R S hT k => ⟨G, F, ρ, Q, S, hT, k⟩⟩
theorem PPTs.lift {es : List Expr} {t : TT} {T : TTp} (h : PPTs X es t T) : PPTs X es (liftT X.K T) T :=
  ⟨⟨fun pins s σ H Q I ⟨G, F, ρ, Q', S, hT, k⟩ => h.pt.run pins s σ H Q I (h.snd G F H σ ρ Q' Q S hT k)⟩, fun G F H σ ρ Q R S hT k => ⟨G, F, ρ, Q, S, hT, k⟩⟩
theorem PTg.lift {tg : Expr} {g : TG} {T : TGp} {is : List Nat} (h : PTg X tg g T is) : PTg X tg (liftG X.K T is) T is :=
  ⟨⟨fun pins s σ H v u Q I r ⟨G, F, ρ, Q', d, S, rd, hT, k⟩ => h.pg.run pins s σ H v u Q I r (h.snd G F H σ ρ Q' Q v d S rd hT k)⟩, fun G F H σ ρ Q R v d S r hT k => ⟨G, F, ρ, Q, d, S, r, hT, k⟩⟩
end
section
variable {X : Cx} {elt tg iter : Expr} {ifs : List Expr} {scope : Scope} {own : List (Str × Nat)} {pos : Pos} {wi : TI} {Ti : TAp} {Gp : TGp} {is : List Nat} {Tt : TTp} {Te : TEp} {vs : List Nat}
theorem ppc_lcL (hc : X.calm = true) (hN : X.N.Nodup) (hi : PPI X tg iter wi Ti) (ok : BlkOk X.N X.env.scope scope own)
    (hg : ∀ (s : Shared) (H : Hp) (C : Addr) (cl : List (Str × Addr)) (fp : List Addr), PTg (X.blk s H scope (compEnvC scope cl C X.env) fp) tg (liftG X.K Gp is) Gp is) (ht : ∀ (s : Shared) (H : Hp) (C : Addr) (cl : List (Str × Addr)) (fp : List Addr), PPTs (X.blk s H scope (compEnvC scope cl C X.env) fp) ifs (liftT X.K Tt) Tt)
    (he : ∀ (s : Shared) (H : Hp) (C : Addr) (cl : List (Str × Addr)) (fp : List Addr), PPE (X.blk s H scope (compEnvC scope cl C X.env) fp) elt (liftE X.K Te) Te) (hs : ∀ x, foldedSetIterable iter X.env x = pure x := by intro _; rfl) (hsub : ∀ i ∈ is, i ∈ own.map (·.2) := by decide) :
    PPC X (.ListComp elt [⟨tg, iter, ifs, 0⟩] scope pos) (tLc wi (liftG X.K Gp is) (liftT X.K Tt) (liftE X.K Te) (own.map (·.2))) (pLcO Ti Gp Tt Te (own.map (·.2))) := ppc_lc hc hN hi ok hg ht he hs hsub
theorem ppe_lcL (hc : X.calm = true) (hN : X.N.Nodup) (hi : PPI X tg iter wi Ti) (ok : BlkOk X.N X.env.scope scope own)
    (hg : ∀ (s : Shared) (H : Hp) (C : Addr) (cl : List (Str × Addr)) (fp : List Addr), PTg (X.blk s H scope (compEnvC scope cl C X.env) fp) tg (liftG X.K Gp is) Gp is) (ht : ∀ (s : Shared) (H : Hp) (C : Addr) (cl : List (Str × Addr)) (fp : List Addr), PPTs (X.blk s H scope (compEnvC scope cl C X.env) fp) ifs (liftT X.K Tt) Tt)
    (he : ∀ (s : Shared) (H : Hp) (C : Addr) (cl : List (Str × Addr)) (fp : List Addr), PPE (X.blk s H scope (compEnvC scope cl C X.env) fp) elt (liftE X.K Te) Te) (hs : ∀ x, foldedSetIterable iter X.env x = pure x := by intro _; rfl) (hsub : ∀ i ∈ is, i ∈ own.map (·.2) := by decide) :
    PPE X (.ListComp elt [⟨tg, iter, ifs, 0⟩] scope pos) (tLc wi (liftG X.K Gp is) (liftT X.K Tt) (liftE X.K Te) (own.map (·.2))) (pLc Ti Gp Tt Te (own.map (·.2))) := ppe_lc hc hN hi ok hg ht he hs hsub
end
theorem hu64 {k : Nat} {A : Around} (hr : Room k A) : A.units + 64 < cLine := by have := hr.un; omega
end Pl
namespace Pl
open PySem PySem.Spec PyProof.Rows L2
theorem ifB {b : Bool} {A B : Prop} (h1 : b = true → A) (h2 : b = false → B) : if b = true then A else B := by
  cases b with
  | true => exact ite_ti (h1 rfl)
  | false => exact ite_fi (h2 rfl)
theorem ifT {b : Bool} {A B : Prop} (h : b = true) (h1 : A) : if b = true then A else B := by subst h; exact ite_ti h1
theorem ifF {b : Bool} {A B : Prop} (h : b = false) (h1 : B) : if b = true then A else B := by subst h; exact ite_fi h1
theorem dT {p : Prop} [Decidable p] (h : decide p = true) : p := of_decide_eq_true h
theorem sl1000 {n : Nat} (h : n ≤ 1000) : n ≤ sizeLine := Nat.le_of_lt (small1000 h)
theorem for_inv {g : TGp} {tb : TSp} {P : PEnds} (I : List D → Ro → Prop) (hs : ∀ (d : D) (r : List D) (ρ : Ro) (K : Ro → Prop), (∀ ρ', I r ρ' → K ρ') → I (d :: r) ρ → g d ρ fun ρ1 => tb { P with nx := K, ct := K, bk := P.nx } ρ1)
    (he : ∀ ρ, I [] ρ → P.nx ρ) : ∀ (ds : List D) (ρ : Ro), I ds ρ → forW g tb P ds ρ
  | [], ρ, h => he ρ h
  | d :: ds, ρ, h => hs d ds ρ _ (fun ρ' h' => for_inv I hs he ds ρ' h') h
theorem lcW_inv {vs : List Nat} {g : TGp} {tt : TTp} {te : TEp} {Q : List D → Ro → Prop} (I : List D → List D → Ro → Prop)
    (hs : ∀ (d : D) (r acc : List D) (ρ : Ro) (K : List D → Ro → Prop), (∀ acc' ρ', I r acc' ρ' → K acc' ρ') → I (d :: r) acc ρ → g d (wipeP ρ vs) fun ρ2 => tt ρ2 fun b ρ3 => if b = true then te ρ3 fun y ρ4 => acc.length < sizeLine ∧ K (acc ++ [y]) (restore ρ ρ4 vs) else K acc (restore ρ ρ3 vs))
    (he : ∀ acc ρ, I [] acc ρ → Q acc ρ) : ∀ (ds acc : List D) (ρ : Ro), I ds acc ρ → lcW vs g tt te Q ds acc ρ
  | [], acc, ρ, h => he acc ρ h
  | d :: ds, acc, ρ, h => hs d ds acc ρ (fun acc' ρ' => lcW vs g tt te Q ds acc' ρ') (fun acc' ρ' h' => lcW_inv I hs he ds acc' ρ' h') h
def ElemOk (vs : List Nat) (g : TGp) (te : TEp) (ρ : Ro) (d y : D) : Prop := ∀ K : D → Ro → Prop, (∀ ρ4, restore ρ ρ4 vs = ρ → K y ρ4) → g d (wipeP ρ vs) fun ρ2 => te ρ2 K
theorem lcW_map {vs : List Nat} {g : TGp} {te : TEp} {Q : List D → Ro → Prop} {f : D → D} {ρ : Ro} : ∀ (ds acc : List D), (∀ d ∈ ds, ElemOk vs g te ρ d (f d)) → acc.length + ds.length ≤ 1000 → Q (acc ++ ds.map f) ρ → lcW vs g pYes te Q ds acc ρ
  | [], acc, _, _, hQ => by
    have hQ : Q (acc ++ []) ρ := hQ
    rw [List.append_nil] at hQ
    exact hQ
  | d :: ds, acc, h, hl, hQ => by
    have hl' : acc.length + (ds.length + 1) ≤ 1000 := hl
    refine h d (by simp) _ fun ρ4 e => ⟨small1000 (by omega), ?_⟩
    rw [e]
    refine lcW_map ds _ (fun x hx => h x (by simp [hx])) (by rw [List.length_append]; show acc.length + 1 + ds.length ≤ 1000; omega) ?_
    rw [List.append_assoc]
    exact hQ
abbrev dI (ns : List Int) : List D := ns.map D.int
theorem ints_len (ns : List Int) : (dI ns).length = ns.length := by simp
def Sq (d : D) (ns : List Int) : Prop := d = .tup (dI ns) ∨ d = .lst (dI ns)
theorem atI_zero {α : Type} (x : α) (r : List α) : atI (x :: r) 0 = some x := atI_nat (j := 0) rfl
end Pl
namespace Pl
open PySem PySem.Spec PyProof.Rows L2
theorem fnNoneB {P : Program} {w : World} {K : PySem.W.Frag} {mg : Str → Option Value} {base : Heap} {k n : Nat} {x qual : Str} {st : Stmt} {f : Addr} {fd : FuncData} {ps : List Str} (_ : Fun K x qual st f fd) : FnOk P w K mg base CX0 k f fd ps (spB K n fun _ _ _ => False) :=
  ⟨fun _ _ _ _ ⟨_, _, _, _, _, _, _, _, _, _, _, _, _, _, h, _⟩ => h.elim, fun _ _ _ _ _ _ _ _ _ _ _ _ _ ⟨_, _, _, _, _, _, _, _, _, _, _, _, _, _, h, _⟩ => h.elim⟩
theorem fnNoneA {P : Program} {w : World} {K : PySem.W.Frag} {mg : Str → Option Value} {base : Heap} {k n : Nat} {x qual : Str} {st : Stmt} {f : Addr} {fd : FuncData} {ps : List Str} (_ : Fun K x qual st f fd) : FnOk P w K mg base CX0 k f fd ps (spA K n fun _ _ => False) :=
  ⟨fun _ _ _ _ ⟨_, _, _, _, _, _, h, _⟩ => h.elim, fun _ _ _ _ _ _ _ _ _ _ _ _ _ ⟨_, _, _, _, _, _, h, _⟩ => h.elim⟩
end Pl
namespace Pl
open PySem PySem.Spec PyProof.Rows L2
variable [TJ]
def tyN : D → String
  | .non => "NoneType"
  | .bl _ => "bool"
  | .int _ => "int"
  | .str _ => "str"
  | .lst _ => "list"
  | .tup _ => "tuple"
  | .scr _ => "list"
  | .adr _ => "list"
  | .exc _ _ => "object"
def D.isInt : D → Bool
  | .int _ => true
  | .bl _ => true
  | _ => false
def D.isBl : D → Bool
  | .bl _ => true
  | _ => false
def D.isStr : D → Bool
  | .str _ => true
  | _ => false
def D.isLst : D → Bool
  | .lst _ => true
  | .scr _ => true
  | .adr _ => true
  | _ => false
def D.isTup : D → Bool
  | .tup _ => true
  | _ => false
structure IsT (n : String) (p : D → Bool) : Prop where
  kit : ∀ d, kitB (tyN d) n = some (p d)
  boot : bootBuiltins (Str.ofString n) = some (.type n)
theorem isT_int : IsT "int" D.isInt := ⟨fun d => by cases d <;> with_unfolding_all rfl, by decide +kernel⟩
theorem isT_bool : IsT "bool" D.isBl := ⟨fun d => by cases d <;> with_unfolding_all rfl, by decide +kernel⟩
theorem isT_str : IsT "str" D.isStr := ⟨fun d => by cases d <;> with_unfolding_all rfl, by decide +kernel⟩
theorem isT_list : IsT "list" D.isLst := ⟨fun d => by cases d <;> with_unfolding_all rfl, by decide +kernel⟩
theorem isT_tuple : IsT "tuple" D.isTup := ⟨fun d => by cases d <;> with_unfolding_all rfl, by decide +kernel⟩
theorem Rep.ty {K : PySem.W.Frag} {F H : Hp} (e : Same F H) {v : V} {d : D} (r : Rep K F v d) (hn : (∀ ns, d ≠ .scr ns) ∧ (∀ a, d ≠ .adr a) ∧ ∀ c y, d ≠ .exc c y) : TyX K H v (.type (tyN d)) := by
  cases r with
  | non => exact .base .non
  | bl b => exact .base (.bl b)
  | int i => exact .base (.int i)
  | str z => exact .base (.str z)
  | lst h _ => exact .base (.lst (e _ _ h))
  | tup h _ => exact .base (.tup (e _ _ h))
  | scr _ => exact absurd rfl (hn.1 _)
  | adr _ => exact absurd rfl (hn.2.1 _)
  | exc _ _ _ _ => exact absurd rfl (hn.2.2 _ _)
def notScr (d : D) (A : Prop) : Prop := match d with
  | .scr _ => False
  | .adr _ => False
  | .exc _ _ => False
  | _ => A
theorem notScr_of {d : D} {A : Prop} (h : notScr d A) : ((∀ ns, d ≠ .scr ns) ∧ (∀ a, d ≠ .adr a) ∧ ∀ c y, d ≠ .exc c y) ∧ A := by
  cases d with
  | scr ns => exact h.elim
  | adr a => exact h.elim
  | exc _ _ => exact h.elim
  | _ => exact ⟨⟨fun _ z => (by cases z), fun _ z => (by cases z), fun _ _ z => (by cases z)⟩, h⟩
section
variable {X : Cx} {e : Expr} {te : TE} {Te : TEp} {pos : Pos}
def pIsi (p : D → Bool) (Te : TEp) : TEp := fun ρ Q => Te ρ fun d ρ1 => notScr d (Q (.bl (p d)) ρ1)
theorem ppe_isi {n : String} {p : D → Bool} {fp np : Pos} (ht : IsT n p) (hg : Gl X "isinstance") (hm : X.mg "isinstance" = none) (hgn : Gl X (Str.ofString n)) (hmn : X.mg (Str.ofString n) = none) (he : PPE X e te Te) (hnn : Str.ofString n ≠ "__name__" := by decide) (hnd : (Str.ofString n == ("__debug__" : Str)) = false := by decide)
    (hs : starEach [e, .Name (Str.ofString n) np] X.env = (false, eval e X.env) :: starEach [.Name (Str.ofString n) np] X.env := by rfl) (hs2 : starEach [.Name (Str.ofString n) np] X.env = (false, eval (.Name (Str.ofString n) np) X.env) :: starEach [] X.env := by rfl) (hpl : (backTo pos (starEach [.Name (Str.ofString n) np] X.env)).any (·.1) = false := by rfl) :
    PPE X (.Call (.Name "isinstance" fp) [e, .Name (Str.ofString n) np] [] pos) (tCB (rIsi X.K) (tCons te (tCons (tC (.ty n)) tNil))) (pIsi p Te) :=
  ⟨pe_callB call_isi hg hm (by decide +kernel) (pa_cons he.pe (pa_cons (pe_bltn hgn hmn ht.boot rfl hnn hnd) pa_nil hs2) hs) (by decide) (by decide) hs hpl, fun G F H σ ρ Q R S hT k =>
    he.snd G F H σ ρ _ _ S hT fun v d F1 H1 ρ1 u1 S1 r1 q1 => by
      obtain ⟨hn, q⟩ := notScr_of q1
      exact ⟨v, .ty n, _, _, p d, rfl, .ty n, r1.ty S1.hF hn, ht.kit d, k _ _ F1 H1 ρ1 u1 S1 (.bl _) q⟩⟩
def pIsi2 (p q : D → Bool) (Te : TEp) : TEp := fun ρ Q => Te ρ fun d ρ1 => notScr d (Q (.bl (p d || q d)) ρ1)
theorem ppe_isi2 {n m : String} {p q : D → Bool} {fp np mp tp : Pos} {kk : Nat} (ht : IsT n p) (ht2 : IsT m q) (hg : Gl X "isinstance") (hm : X.mg "isinstance" = none) (hgn : Gl X (Str.ofString n)) (hmn : X.mg (Str.ofString n) = none) (hgm : Gl X (Str.ofString m)) (hmm : X.mg (Str.ofString m) = none) (he : PPE X e te Te)
    (hnn : Str.ofString n ≠ "__name__" := by decide) (hnd : (Str.ofString n == ("__debug__" : Str)) = false := by decide) (hmn' : Str.ofString m ≠ "__name__" := by decide) (hmd : (Str.ofString m == ("__debug__" : Str)) = false := by decide)
    (hs : starEach [e, .Tuple [.Name (Str.ofString n) np, .Name (Str.ofString m) mp] kk tp] X.env = (false, eval e X.env) :: starEach [.Tuple [.Name (Str.ofString n) np, .Name (Str.ofString m) mp] kk tp] X.env := by rfl)
    (hs2 : starEach [.Tuple [.Name (Str.ofString n) np, .Name (Str.ofString m) mp] kk tp] X.env = (false, eval (.Tuple [.Name (Str.ofString n) np, .Name (Str.ofString m) mp] kk tp) X.env) :: starEach [] X.env := by rfl)
    (hs3 : starEach [.Name (Str.ofString n) np, .Name (Str.ofString m) mp] X.env = (false, eval (.Name (Str.ofString n) np) X.env) :: starEach [.Name (Str.ofString m) mp] X.env := by rfl)
    (hs4 : starEach [.Name (Str.ofString m) mp] X.env = (false, eval (.Name (Str.ofString m) mp) X.env) :: starEach [] X.env := by rfl)
    (hpl : (backTo pos (starEach [.Tuple [.Name (Str.ofString n) np, .Name (Str.ofString m) mp] kk tp] X.env)).any (·.1) = false := by rfl) :
    PPE X (.Call (.Name "isinstance" fp) [e, .Tuple [.Name (Str.ofString n) np, .Name (Str.ofString m) mp] kk tp] [] pos) (tCB (rIsiT X.K) (tCons te (tCons (tTup (tCons (tC (.ty n)) (tCons (tC (.ty m)) tNil))) tNil))) (pIsi2 p q Te) :=
  ⟨pe_callB call_isiT hg hm (by decide +kernel) (pa_cons he.pe (pa_cons (pe_tup (pa_cons (pe_bltn hgn hmn ht.boot rfl hnn hnd) (pa_cons (pe_bltn hgm hmm ht2.boot rfl hmn' hmd) pa_nil hs4) hs3)) pa_nil hs2) hs) (by decide) (by decide) hs hpl, fun G F H σ ρ Q R S hT k =>
    he.snd G F H σ ρ _ _ S hT fun v d F1 H1 ρ1 u1 S1 r1 q1 => by
      obtain ⟨hn, q'⟩ := notScr_of q1
      refine ⟨by show (2 : Nat) ≤ sizeLine; decide, fun a ha => ?_⟩
      refine ⟨v, a, [.ty n, .ty m], _, [.type n, .type m], p d || q d, rfl, upd_same, .cons (.ty n) (.cons (.ty m) .nil), r1.ty (S1.hF.trans (same_new ha)) hn, ?_, k _ _ F1 _ ρ1 u1 (S1.more ha) (.bl _) q'⟩
      refine kitAny_cons (b := p d) (ht.kit d) (fun h => kitAny_cons (b := q d) (ht2.kit d) (fun h2 => by rw [h, h2]; rfl) (fun h2 => by rw [h2]; simp)) (fun h => by rw [h]; rfl)⟩
end
def okN : Nat → D → Prop
  | _, .non => True
  | _, .bl _ => True
  | _, .int _ => True
  | _, .str z => (D.str z).sh
  | n + 1, .lst xs => xs.length ≤ 1000 ∧ ∀ x ∈ xs, okN n x
  | n + 1, .tup xs => xs.length ≤ 1000 ∧ ∀ x ∈ xs, okN n x
  | _, _ => False
def gS : Nat → FA
  | 0 => fun _ _ => False
  | n + 1 => fun ds C => ∃ d, ds = [d, d] ∧ okN n d ∧ C (.val (.bl true))
end Pl
namespace Pl
def UpL (s : Int) : List Int → Prop
  | x :: y :: r => y ≤ x + s ∧ UpL s (y :: r)
  | _ => True
def UpR (s : Int) : List Int → Prop
  | x :: y :: r => x ≤ y + s ∧ UpR s (y :: r)
  | _ => True
def Gentle (s : Int) (l : List Int) : Prop := UpL s l ∧ UpR s l
def Lq : List Int → List Int → Prop
  | x :: xs, y :: ys => x ≤ y ∧ Lq xs ys
  | [], [] => True
  | _, _ => False
theorem Lq.refl : ∀ l : List Int, Lq l l
  | [] => trivial
  | x :: l => ⟨Int.le_refl x, Lq.refl l⟩
theorem Lq.trans : ∀ {a b c : List Int}, Lq a b → Lq b c → Lq a c
  | [], [], [], _, _ => trivial
  | x :: a, y :: b, z :: c, h, g => ⟨Int.le_trans h.1 g.1, Lq.trans h.2 g.2⟩
  | [], [], _ :: _, _, g => g.elim
  | [], _ :: _, _, h, _ => h.elim
  | _ :: _, [], _, h, _ => h.elim
  | _ :: _, _ :: _, [], _, g => g.elim
theorem Lq.length : ∀ {a b : List Int}, Lq a b → a.length = b.length
  | [], [], _ => rfl
  | _ :: a, _ :: b, h => by simp [Lq.length h.2]
  | [], _ :: _, h => h.elim
  | _ :: _, [], h => h.elim
end Pl
namespace Pl
def aI (i : Int) : Int := if i < 0 then -i else i
def reach (s : Int) (l : List Int) (i : Int) : List Int := (List.range l.length).map fun (j : Nat) => l.getD j 0 + s * aI (i - (j : Int))
def reachF (s : Int) (l : List Int) (i : Int) : List Int := (List.range l.length).map fun (j : Nat) => l.getD j 0 - s * aI (i - (j : Int))
end Pl
namespace Pl
theorem UpL.mono {s t : Int} (h : s ≤ t) : ∀ {l : List Int}, UpL s l → UpL t l
  | [], _ => trivial
  | [_], _ => trivial
  | x :: y :: r, g => ⟨by have := g.1; omega, UpL.mono h g.2⟩
theorem UpR.mono {s t : Int} (h : s ≤ t) : ∀ {l : List Int}, UpR s l → UpR t l
  | [], _ => trivial
  | [_], _ => trivial
  | x :: y :: r, g => ⟨by have := g.1; omega, UpR.mono h g.2⟩
theorem Gentle.mono {s t : Int} (h : s ≤ t) {l : List Int} (g : Gentle s l) : Gentle t l := ⟨g.1.mono h, g.2.mono h⟩
theorem upL_append {s x y : Int} : ∀ {a b : List Int}, UpL s (a ++ [x]) → UpL s (y :: b) → y ≤ x + s → UpL s (a ++ x :: y :: b)
  | [], _, _, h2, h => ⟨h, h2⟩
  | [a], _, h1, h2, h => ⟨h1.1, h, h2⟩
  | a :: c :: l, _, h1, h2, h => ⟨h1.1, upL_append (a := c :: l) h1.2 h2 h⟩
theorem upR_append {s x y : Int} : ∀ {a b : List Int}, UpR s (a ++ [x]) → UpR s (y :: b) → x ≤ y + s → UpR s (a ++ x :: y :: b)
  | [], _, _, h2, h => ⟨h, h2⟩
  | [a], _, h1, h2, h => ⟨h1.1, h, h2⟩
  | a :: c :: l, _, h1, h2, h => ⟨h1.1, upR_append (a := c :: l) h1.2 h2 h⟩
theorem upL_reverse {s : Int} : ∀ {l : List Int}, UpL s l → UpR s l.reverse
  | [], _ => trivial
  | [_], _ => trivial
  | x :: y :: r, h => by
    have ih := upL_reverse (l := y :: r) h.2
    rw [List.reverse_cons] at ih ⊢
    rw [List.reverse_cons, List.append_assoc]
    exact upR_append ih trivial h.1
theorem upR_reverse {s : Int} : ∀ {l : List Int}, UpR s l → UpL s l.reverse
  | [], _ => trivial
  | [_], _ => trivial
  | x :: y :: r, h => by
    have ih := upR_reverse (l := y :: r) h.2
    rw [List.reverse_cons] at ih ⊢
    rw [List.reverse_cons, List.append_assoc]
    exact upL_append ih trivial h.1
theorem Gentle.reverse {s : Int} {l : List Int} (h : Gentle s l) : Gentle s l.reverse := ⟨upR_reverse h.2, upL_reverse h.1⟩
end Pl
namespace Pl
open PySem PySem.Spec PyProof.Rows L2
abbrev N__law_cell_at : List Str := [("_law_script" : Str), ("_law_k" : Str)]
def T__law_cell_at : TSp :=
  (pSeq (pIfS (pTest (pOp fLt (pVar 1) (pLenO 0)))
    (pRet (pVal (pIxO 0 (pVar 1))))
    pNext)
    (pRet (pVal (pC (.int 0)))))
abbrev N__law_box : List Str := [("_law_script" : Str), ("_law_k" : Str), ("_law_cell" : Str)]
def T__law_box (g__law_cell_at : FA) : TSp :=
  (pSeq (pSet 2 (pCallA 2 g__law_cell_at (pCons (pVar 0) (pCons (pVar 1) pNil))))
    (pRet (pLstO (pCons (pOp fMulI (pCB fAbs (pCons (pVar 2) pNil)) (pCB fInt1 (pCons (pOp fGe (pCB fAbs (pCons (pVar 2) pNil)) (pC (.int 1000000000000000000))) pNil))) (pCons (pOp fAdd (pOp fAdd (pOp fMod (pVar 2) (pC (.int 2305843009213693951))) (pOp fMulI (pC (.int 39373)) (pVar 1))) (pC (.int 17))) (pCons (pC (.int 0)) pNil))))))
abbrev N__law_take : List Str := [("_law_box_here" : Str), ("_law_size" : Str), ("_law_told" : Str), ("_law_once" : Str), ("_law_twice" : Str)]
def T__law_take (g__law_take : FB) : TSp :=
  (pSeq (pIfS (pTest (pOp fGt (pIxO 0 (pC (.int 0))) (pC (.int 0))))
    (pSeq (pSet 2 (pVal (pOp fMod (pIxO 0 (pC (.int 0))) (pVar 1))))
    (pSeq (pStore 0 (pC (.int 0)) (pOp fDiv (pIxO 0 (pC (.int 0))) (pVar 1)))
    (pRet (pMove 2))))
    pNext)
    (pSeq (pIfS (pTest (pOp fGt (pVar 1) (pC (.int 10000000))))
    (pRet (pVal (pOp fMod (pOp fAdd (pFrz (pCallB 0 2 g__law_take (pCons (pC (.int 10000000)) pNil))) (pOp fMulI (pC (.int 10000000)) (pFrz (pCallB 0 2 g__law_take (pCons (pOp fAdd (pOp fDiv (pOp fSub (pVar 1) (pC (.int 1))) (pC (.int 10000000))) (pC (.int 1))) pNil))))) (pVar 1))))
    pNext)
    (pSeq (pStore 0 (pC (.int 2)) (pOp fAdd (pIxO 0 (pC (.int 2))) (pC (.int 1))))
    (pSeq (pSet 3 (pVal (pOp fMod (pOp fMulI (pOp fAdd (pIxO 0 (pC (.int 1))) (pOp fMulI (pC (.int 48271)) (pIxO 0 (pC (.int 2))))) (pOp fAdd (pC (.int 39373)) (pIxO 0 (pC (.int 2))))) (pC (.int 2147483647)))))
    (pSeq (pSet 4 (pVal (pOp fMod (pOp fMulI (pOp fAdd (pOp fAdd (pVar 3) (pIxO 0 (pC (.int 2)))) (pOp fDiv (pIxO 0 (pC (.int 1))) (pC (.int 1000003)))) (pOp fAdd (pOp fMod (pVar 3) (pC (.int 40009))) (pC (.int 7)))) (pC (.int 2147483629)))))
    (pRet (pVal (pOp fMod (pOp fDiv (pOp fMod (pOp fAdd (pOp fMulI (pVar 4) (pC (.int 48271))) (pVar 3)) (pC (.int 2147483587))) (pC (.int 64))) (pVar 1)))))))))
abbrev N__law_of : List Str := [("_law_box_here" : Str), ("_law_some" : Str)]
def T__law_of (g__law_take : FB) : TSp :=
  (pRet (pVal (pIxO 1 (pFrz (pCallB 0 2 g__law_take (pCons (pLenO 1) pNil))))))
abbrev N__law_dune : List Str := [("_law_box_here" : Str), ("_law_size" : Str), ("_law_many" : Str), ("_law_wide" : Str), ("_law_told" : Str), ("_law_pole" : Str)]
def T__law_dune (g__law_take : FB) : TSp :=
  (pSeq (pPar 2 3 (pCons (pOp fAdd (pC (.int 1)) (pFrz (pCallB 0 2 g__law_take (pCons (pVar 1) pNil)))) (pCons (pOp fIx (pLst (pCons (pC (.int 2)) (pCons (pC (.int 12)) (pCons (pC (.int 60)) (pCons (pC (.int 1000000000)) pNil))))) (pFrz (pCallB 0 2 g__law_take (pCons (pC (.int 4)) pNil)))) pNil)))
    (pSeq (pSet 4 (pLstO pNil))
    (pSeq (pFor (jRng1 (pCons (pVar 2) pNil)) (hName 5)
    (pAppend 4 (pOp fIx (pLst (pCons (pC (.int 0)) (pCons (pVar 3) (pCons (pOp fSub (pFrz (pCallB 0 2 g__law_take (pCons (pOp fAdd (pOp fMulI (pC (.int 2)) (pVar 3)) (pC (.int 1))) pNil))) (pVar 3)) (pCons (pFrz (pCallB 0 2 g__law_take (pCons (pOp fAdd (pVar 3) (pC (.int 1))) pNil))) pNil))))) (pFrz (pCallB 0 2 g__law_take (pCons (pC (.int 4)) pNil))))))
    (pRet (pVal (pCB fTup (pCons (pVar 4) pNil)))))))
abbrev N__law_same : List Str := [("_law_told" : Str), ("_law_due" : Str), ("_law_here" : Str), ("_law_two" : Str)]
def T__law_same (g__law_same : FA) : TSp :=
  (pSeq (pIfS (pTest (pIsi2 D.isLst D.isTup (pVar 1)))
    (pSeq (pIfS (pOr (pTest (pOp fNe (pIsi D.isLst (pVar 0)) (pIsi D.isLst (pVar 1)))) (pTest (pOp fNe (pIsi D.isTup (pVar 0)) (pIsi D.isTup (pVar 1)))))
    (pRet (pVal (pC (.bl false))))
    pNext)
    (pRet (pVal (pAndV (pOp fEq (pLenO 0) (pLenO 1)) (pCB fAll (pCons (pLc (jZ2 (pCons (pVar 0) (pCons (pVar 1) pNil))) (hTup 2 (hCons (hName 2) (hCons (hName 3) hNil))) pYes (pFrz (pCallA 2 g__law_same (pCons (pVar 2) (pCons (pVar 3) pNil)))) [2, 3]) pNil))))))
    pNext)
    (pSeq (pIfS (pOr (pTest (pOp fIsN (pVar 1) (pC .non))) (pTest (pIsi2 D.isBl D.isStr (pVar 1))))
    (pRet (pVal (pAndV (pOp fEq (pVar 0) (pVar 1)) (pAndV (pOp fEq (pIsi D.isBl (pVar 0)) (pIsi D.isBl (pVar 1))) (pOp fEq (pOp fIsN (pVar 0) (pC .non)) (pOp fIsN (pVar 1) (pC .non)))))))
    pNext)
    (pRet (pVal (pAndV (pIsi D.isInt (pVar 0)) (pAndV (pNotV (pIsi D.isBl (pVar 0))) (pOp fEq (pVar 0) (pVar 1))))))))
abbrev N__law_slope : List Str := [("_law_box_here" : Str)]
def T__law_slope (g__law_take : FB) : TSp :=
  (pRet (pCallB 0 2 g__law_take (pCons (pOp fIx (pLst (pCons (pC (.int 4)) (pCons (pC (.int 9)) (pCons (pC (.int 40)) (pCons (pC (.int 1000000000)) pNil))))) (pFrz (pCallB 0 2 g__law_take (pCons (pC (.int 4)) pNil)))) pNil)))
abbrev N__law_winds : List Str := [("_law_box_here" : Str), ("_law_size" : Str), ("_law_turn" : Str)]
def T__law_winds (g__law_take : FB) (g__law_slope : FB) : TSp :=
  (pRet (pLcO (jRng1 (pCons (pFrz (pCallB 0 2 g__law_take (pCons (pOp fAdd (pVar 1) (pC (.int 1))) pNil))) pNil)) (hName 2) pYes (pTup (pCons (pOp fIx (pLst (pCons (pC (.str "cut")) (pCons (pC (.str "fill")) pNil))) (pFrz (pCallB 0 2 g__law_take (pCons (pC (.int 2)) pNil)))) (pCons (pFrz (pCallB 0 1 g__law_slope pNil)) pNil))) [2]))
end Pl
namespace Pl
open PySem PySem.Spec PyProof.Rows L2
def wordS : Bool → Str
  | true => "cut"
  | false => "fill"
def windD (cut : Bool) (s : Int) : D := .tup [.str (wordS cut), .int s]
theorem sh_cut : (D.str "cut").sh := by unfold D.sh; decide +kernel
theorem sh_fill : (D.str "fill").sh := by unfold D.sh; decide +kernel
theorem sh_int (i : Int) : (D.int i).sh := by unfold D.sh toPy; rfl
theorem sh_bl (i : Bool) : (D.bl i).sh := by unfold D.sh toPy; rfl
theorem eqv_bl (a b : Bool) : (D.bl a).eqv (.bl b) = (a == b) := rfl
theorem eqv_int (a b : Int) : (D.int a).eqv (.int b) = (a == b) := rfl
def g__law_cell_at : FA := fun ds C => ∃ ns k, ds = [.scr ns, .int k] ∧ 0 ≤ k ∧ ∀ n, C (.val (.int n))
theorem rd__law_cell_at : ∀ ds C, ds.length = 2 → g__law_cell_at ds C → T__law_cell_at { nx := fun _ => C (.val .non), rt := fun c _ => C c } (startA N__law_cell_at ds) := by
  rintro ds C - ⟨ns, k, rfl, hk, hC⟩
  refine ifB (fun h => ?_) (fun h => ?_)
  · have h := dT h
    obtain ⟨j, rfl⟩ := Int.eq_ofNat_of_zero_le hk
    have hj : j < ns.length := by simpa using h
    exact ⟨ns[j], atI_nat (List.getElem?_eq_getElem hj), hC _⟩
  · exact hC _
def Bx (n : Nat) (xs : List D) : Prop := ∃ a b c : Int, xs = [.int a, .int b, .int c] ∧ 0 ≤ a ∧ 0 ≤ b ∧ b ≤ 2 ^ 62 ∧ 0 ≤ c ∧ c ≤ n
theorem Bx.mono {n m : Nat} {xs : List D} (h : Bx n xs) (hm : n ≤ m) : Bx m xs := by
  obtain ⟨a, b, c, h1, h2, h3, h4, h5, h6⟩ := h
  exact ⟨a, b, c, h1, h2, h3, h4, h5, by omega⟩
def g__law_box : FA := fun ds C => ∃ ns k, ds = [.scr ns, .int k] ∧ 0 ≤ k ∧ k ≤ 1000000 ∧ ∀ a xs, Bx 0 xs → C (.own a xs)
theorem iabs_nonneg (i : Int) : 0 ≤ iabs i := by unfold iabs; split <;> omega
theorem rd__law_box : ∀ ds C, ds.length = 2 → g__law_box ds C → T__law_box g__law_cell_at { nx := fun _ => C (.val .non), rt := fun c _ => C c } (startA N__law_box ds) := by
  rintro ds C - ⟨ns, k, rfl, hk, hk2, hC⟩
  refine ⟨rfl, ns, k, rfl, hk, fun n => ?_⟩
  refine ⟨.inr ?_, (by show (0 : Int) < 2305843009213693951; decide), .inl (by constructor <;> decide), by show (3 : Nat) ≤ sizeLine; decide, fun a => hC a _ ⟨_, _, _, rfl, ?_, ?_, ?_, Int.le_refl _, Int.le_refl _⟩⟩
  · constructor <;> split <;> decide
  · refine Int.mul_nonneg (iabs_nonneg n) ?_
    split <;> decide
  · have := Int.emod_nonneg n (b := 2305843009213693951) (by decide)
    omega
  · have := Int.emod_lt_of_pos n (b := 2305843009213693951) (by decide)
    omega
def g_take (top : Int) : FB := fun xs ds C => ∃ n size, n ≤ 1000000000000 ∧ Bx n xs ∧ ds = [.int size] ∧ 0 < size ∧ size ≤ top ∧ ∀ r ys, 0 ≤ r → r < size → Bx (n + 2) ys → C (.val (.int r)) ys
def g_none : FB := fun _ _ _ => False
def g_take0 : FB := fun xs ds C => ∃ n size, n ≤ 1000000000001 ∧ Bx n xs ∧ ds = [.int size] ∧ 0 < size ∧ size ≤ 10000000 ∧ ∀ r ys, 0 ≤ r → r < size → Bx (n + 1) ys → C (.val (.int r)) ys
theorem rd_take0g (gg : FB) : ∀ a xs ds C, ds.length + 1 = 2 → g_take0 xs ds C → T__law_take gg { nx := fun ρ => ∃ ys, ρ[0]? = some (some (.own a ys)) ∧ C (.val .non) ys, rt := fun c ρ => ∃ ys, ρ[0]? = some (some (.own a ys)) ∧ C c ys } (startB N__law_take a xs ds) := by
  rintro a xs ds C - ⟨n, size, hn, ⟨b0, b1, b2, rfl, h0, h1, h1', h2, h2'⟩, rfl, hs0, hs, hC⟩
  refine ⟨_, _, _, rfl, rfl, rfl, ifB (fun h => ?_) (fun h => ?_)⟩
  · have h := dT h
    refine ⟨_, _, _, rfl, rfl, rfl, hs0, _, _, _, rfl, rfl, rfl, ⟨hs0, by omega⟩, _, _, _, rfl, rfl, rfl, _, rfl, hC _ _ (Int.emod_nonneg _ (by omega)) (Int.emod_lt_of_pos _ hs0) ⟨_, _, _, rfl, Int.ediv_nonneg h0 (by omega), h1, h1', h2, by omega⟩⟩
  · refine ifF (decide_eq_false (by omega)) ?_
    refine ⟨_, _, _, rfl, rfl, rfl, _, _, _, rfl, rfl, rfl, ?_⟩
    refine ⟨_, _, _, rfl, rfl, rfl, _, _, _, rfl, rfl, rfl, .inl ⟨by decide, by decide⟩, _, _, _, rfl, rfl, rfl, .inr ⟨?_, ?_⟩, (by show (0 : Int) < 2147483647; decide), ?_⟩
    · show (-(2 ^ 64) : Int) < 39373 + (b2 + 1); omega
    · show (39373 + (b2 + 1) : Int) < 2 ^ 64; omega
    refine ⟨_, _, _, rfl, rfl, rfl, _, _, _, rfl, rfl, rfl, ⟨by decide, by decide⟩, (by show (0 : Int) < 40009; decide), .inr ⟨?_, ?_⟩, (by show (0 : Int) < 2147483629; decide), ?_⟩
    · have := Int.emod_nonneg ((b1 + 48271 * (b2 + 1)) * (39373 + (b2 + 1)) % 2147483647) (b := 40009) (by decide)
      show (-(2 ^ 64) : Int) < (b1 + 48271 * (b2 + 1)) * (39373 + (b2 + 1)) % 2147483647 % 40009 + 7
      omega
    · have := Int.emod_lt_of_pos ((b1 + 48271 * (b2 + 1)) * (39373 + (b2 + 1)) % 2147483647) (b := 40009) (by decide)
      show (b1 + 48271 * (b2 + 1)) * (39373 + (b2 + 1)) % 2147483647 % 40009 + 7 < (2 ^ 64 : Int)
      omega
    refine ⟨.inr ⟨by decide, by decide⟩, (by show (0 : Int) < 2147483587; decide), ⟨by decide, by decide⟩, hs0, _, rfl, hC _ _ (Int.emod_nonneg _ (by omega)) (Int.emod_lt_of_pos _ hs0) ⟨_, _, _, rfl, h0, h1, h1', by omega, ?_⟩⟩
    show b2 + 1 ≤ ((n + 1 : Nat) : Int)
    omega
theorem rd_take0 : ∀ a xs ds C, ds.length + 1 = 2 → g_take0 xs ds C → T__law_take g_none { nx := fun ρ => ∃ ys, ρ[0]? = some (some (.own a ys)) ∧ C (.val .non) ys, rt := fun c ρ => ∃ ys, ρ[0]? = some (some (.own a ys)) ∧ C c ys } (startB N__law_take a xs ds) := rd_take0g g_none
theorem rd_take : ∀ a xs ds C, ds.length + 1 = 2 → g_take 100000000000000 xs ds C → T__law_take g_take0 { nx := fun ρ => ∃ ys, ρ[0]? = some (some (.own a ys)) ∧ C (.val .non) ys, rt := fun c ρ => ∃ ys, ρ[0]? = some (some (.own a ys)) ∧ C c ys } (startB N__law_take a xs ds) := by
  rintro a xs ds C - ⟨n, size, hn, hB, rfl, hs0, hs, hC⟩
  have hB' := hB
  obtain ⟨b0, b1, b2, rfl, h0, h1, h1', h2, h2'⟩ := hB
  by_cases hbig : size ≤ 10000000
  · exact rd_take0g g_take0 a _ _ C rfl ⟨n, size, by omega, hB', rfl, hs0, hbig, fun r ys q1 q2 q3 => hC r ys q1 q2 (q3.mono (by omega))⟩
  · refine ⟨_, _, _, rfl, rfl, rfl, ifB (fun h => ?_) (fun h => ?_)⟩
    · have h := dT h
      refine ⟨_, _, _, rfl, rfl, rfl, hs0, _, _, _, rfl, rfl, rfl, ⟨hs0, by omega⟩, _, _, _, rfl, rfl, rfl, _, rfl, hC _ _ (Int.emod_nonneg _ (by omega)) (Int.emod_lt_of_pos _ hs0) ⟨_, _, _, rfl, Int.ediv_nonneg h0 (by omega), h1, h1', h2, by omega⟩⟩
    · refine ifT (decide_eq_true (by omega)) ?_
      refine ⟨_, rfl, rfl, n, 10000000, by omega, hB', rfl, by decide, by decide, fun r1 ys1 q1 q2 q3 => ?_⟩
      have e1 : 0 ≤ (size - 1) / 10000000 := Int.ediv_nonneg (by omega) (by decide)
      have e2 : (size - 1) / 10000000 < 10000000 := Int.ediv_lt_of_lt_mul (by decide) (by omega)
      refine ⟨⟨by decide, by decide⟩, _, rfl, rfl, n + 1, (size - 1) / 10000000 + 1, by omega, q3, rfl, by omega, by omega, fun r2 ys2 p1 p2 p3 => ?_⟩
      refine ⟨.inl ⟨by decide, by decide⟩, hs0, _, rfl, hC _ _ (Int.emod_nonneg _ (by omega)) (Int.emod_lt_of_pos _ hs0) p3⟩
def g__law_of : FB := fun xs ds C => ∃ n d ys, n ≤ 100000000000 ∧ Bx n xs ∧ ds = [d] ∧ (d = .lst ys ∨ d = .tup ys) ∧ 0 < ys.length ∧ ys.length ≤ 1000 ∧ ∀ y zs, y ∈ ys → Bx (n + 2) zs → C (.val y) zs
theorem mem_of_atI {α : Type} {xs : List α} {i : Int} {v : α} (h : atI xs i = some v) : v ∈ xs := by
  obtain ⟨j, _, h2, _⟩ := atI_get h
  exact List.mem_of_getElem? h2
theorem atI_below {α : Type} {xs : List α} {i : Int} (h0 : 0 ≤ i) (h1 : i < xs.length) : ∃ v, atI xs i = some v := by
  obtain ⟨j, rfl⟩ := Int.eq_ofNat_of_zero_le h0
  exact ⟨xs[j]'(by omega), atI_nat (List.getElem?_eq_getElem (by omega))⟩
def g__law_dune : FB := fun xs ds C => ∃ n size, n ≤ 100000000000 ∧ Bx n xs ∧ ds = [.int size] ∧ 0 < size ∧ size ≤ 100 ∧ ∀ ns zs, ns ≠ [] → (ns.length : Int) ≤ size → (∀ x ∈ ns, -1000000000 ≤ x ∧ x ≤ 1000000000) → Bx (n + 2000) zs → C (.val (.tup (dI ns))) zs
theorem rd__law_dune : ∀ a xs ds C, ds.length + 1 = 2 → g__law_dune xs ds C → T__law_dune (g_take 100000000000000) { nx := fun ρ => ∃ ys, ρ[0]? = some (some (.own a ys)) ∧ C (.val .non) ys, rt := fun c ρ => ∃ ys, ρ[0]? = some (some (.own a ys)) ∧ C c ys } (startB N__law_dune a xs ds) := by
  rintro a xs ds C - ⟨n, size, hn, hB, rfl, hs0, hs, hC⟩
  refine ⟨_, rfl, rfl, n, size, by omega, hB, rfl, by omega, by omega, fun many ys1 q1 q2 q3 => ?_⟩
  refine ⟨by show (4 : Nat) ≤ sizeLine; decide, _, rfl, rfl, n + 2, 4, by omega, q3, rfl, by decide, by decide, fun r2 ys2 p1 p2 p3 => ?_⟩
  obtain ⟨v, hv⟩ := atI_below (xs := [D.int 2, .int 12, .int 60, .int 1000000000]) p1 p2
  refine ⟨v, hv, ?_⟩
  obtain ⟨wide, rfl, hw0, hw⟩ : ∃ wide, v = .int wide ∧ 0 < wide ∧ wide ≤ 1000000000 := by
    have := mem_of_atI hv
    simp at this
    rcases this with e | e | e | e <;> subst e <;> exact ⟨_, rfl, by decide, by decide⟩
  refine ⟨by show (0 : Nat) ≤ sizeLine; decide, fun b => ⟨by show (-(2 ^ 62) : Int) ≤ 1 + many; omega, by show (1 + many : Int) < 2 ^ 62; omega, ?_⟩⟩
  have key : ∀ (m : Nat) (P : PEnds), (∀ ρ, (∃ w ns zs, ρ = [some (.own a zs), some (.val (.int size)), some (.val (.int (1 + many))), some (.val (.int wide)), some (.own b (dI ns)), w] ∧ ns.length = m ∧ (∀ x ∈ ns, -1000000000 ≤ x ∧ x ≤ 1000000000) ∧ Bx (n + 4 + 8 * m) zs) → P.nx ρ) → m ≤ 100 →
      forW (hName 5) (pAppend 4 (pOp fIx (pLst (pCons (pC (.int 0)) (pCons (pVar 3) (pCons (pOp fSub (pFrz (pCallB 0 2 (g_take 100000000000000) (pCons (pOp fAdd (pOp fMulI (pC (.int 2)) (pVar 3)) (pC (.int 1))) pNil))) (pVar 3)) (pCons (pFrz (pCallB 0 2 (g_take 100000000000000) (pCons (pOp fAdd (pVar 3) (pC (.int 1))) pNil))) pNil))))) (pFrz (pCallB 0 2 (g_take 100000000000000) (pCons (pC (.int 4)) pNil))))) P (rangeD 0 m) [some (.own a ys2), some (.val (.int size)), some (.val (.int (1 + many))), some (.val (.int wide)), some (.own b []), none] := by
    intro m P hP hm
    refine for_inv (fun ds ρ => ∃ w ns zs, ds.length + ns.length = m ∧ ρ = [some (.own a zs), some (.val (.int size)), some (.val (.int (1 + many))), some (.val (.int wide)), some (.own b (dI ns)), w] ∧ (∀ x ∈ ns, -1000000000 ≤ x ∧ x ≤ 1000000000) ∧ Bx (n + 4 + 8 * ns.length) zs) (fun d rst ρ K hK hI => ?_) (fun ρ hI => ?_) (rangeD 0 m) _ ⟨none, [], ys2, by simp [rangeD], rfl, by simp, p3⟩
    · obtain ⟨w, ns, zs, hl, rfl, hx, hb⟩ := hI
      have hl' : rst.length + 1 + ns.length = m := hl
      refine ⟨.inl ⟨by decide, by decide⟩, _, rfl, rfl, _, _, ?_, hb, rfl, by omega, by omega, fun r3 ys3 a1 a2 a3 => ?_⟩
      · omega
      refine ⟨_, rfl, rfl, _, _, ?_, a3, rfl, by omega, by omega, fun r4 ys4 b1 b2 b3 => ?_⟩
      · omega
      refine ⟨by show (4 : Nat) ≤ sizeLine; decide, _, rfl, rfl, _, _, ?_, b3, rfl, by decide, by decide, fun r5 ys5 c1 c2 c3 => ?_⟩
      · omega
      obtain ⟨v, hv⟩ := atI_below (xs := [D.int 0, .int wide, .int (r3 - wide), .int r4]) c1 c2
      refine ⟨v, hv, dI ns, rfl, small1000 (by rw [ints_len]; omega), ?_⟩
      obtain ⟨h, rfl, hh⟩ : ∃ h, v = .int h ∧ -1000000000 ≤ h ∧ h ≤ 1000000000 := by
        have := mem_of_atI hv
        simp at this
        rcases this with e | e | e | e <;> subst e <;> exact ⟨_, rfl, by omega, by omega⟩
      refine hK _ ⟨some (.val d), ns ++ [h], ys5, by simp; omega, ?_, fun x hx' => ?_, ?_⟩
      · rw [show dI (ns ++ [h]) = dI ns ++ [.int h] from by simp]; rfl
      · rcases List.mem_append.mp hx' with hx' | hx'
        · exact hx x hx'
        · have := List.mem_singleton.mp hx'; subst this; exact hh
      · exact c3.mono (by simp; omega)
    · obtain ⟨w, ns, zs, hl, rfl, hx, hb⟩ := hI
      have hl : ns.length = m := by simpa using hl
      subst hl
      exact hP _ ⟨w, ns, zs, rfl, rfl, hx, hb⟩
  refine key (1 + many).toNat _ (fun ρ ⟨w, ns, zs, e, hl, hx, hb⟩ => ?_) (by omega)
  subst e
  have h1 : (ns.length : Int) = 1 + many := by omega
  refine ⟨zs, rfl, hC ns zs (fun e => by subst e; simp at h1; omega) (by omega) hx (hb.mono (by omega))⟩
end Pl
namespace Pl
open PySem PySem.Spec PyProof.Rows L2
def g_law : FA := fun ds C => ∃ ns, ds = [.scr ns] ∧ ns.length ≤ 63 ∧ C (.val (.bl true))
end Pl
namespace Pl
open PySem PySem.Spec PyProof.Rows L2
theorem eqv_str (z : Str) : (D.str z).eqv (.str z) = true := by
  show (z == z) = true
  simp
theorem zip_same {α : Type} {f : α → α → D} : ∀ (xs : List α), List.zipWith f xs xs = xs.map fun x => f x x
  | [] => rfl
  | x :: xs => by simp [zip_same xs]
theorem zipD_same (xs : List D) : zipD xs xs = xs.map fun x => .tup [x, x] := zip_same xs
theorem lcW_same {vs : List Nat} {g : TGp} {te : TEp} {Q : List D → Ro → Prop} {ρ : Ro} {xs : List D} (hs : ∀ x ∈ xs, ElemOk vs g te ρ (.tup [x, x]) (.bl true)) (hl : xs.length ≤ 1000) (hQ : Q (xs.map fun _ => .bl true) ρ) : lcW vs g pYes te Q (zipD xs xs) [] ρ := by
  rw [zipD_same]
  refine lcW_map (f := fun _ => .bl true) _ [] (fun d hd => ?_) (by simpa using hl) ?_
  · obtain ⟨x, hx, rfl⟩ := List.mem_map.mp hd
    exact hs x hx
  · rw [List.nil_append, List.map_map]
    exact hQ
theorem all_true {α : Type} (xs : List α) : ((xs.map fun _ => true).all id) = true := by
  induction xs with
  | nil => rfl
  | cons x xs ih => rw [List.map_cons, List.all_cons, ih]; rfl
theorem map_true {α : Type} (xs : List α) : (xs.map fun _ => D.bl true) = (xs.map fun _ => true).map D.bl := by rw [List.map_map]; rfl
theorem rd_same (n : Nat) : ∀ ds C, ds.length = 2 → gS (n + 1) ds C → T__law_same (gS n) { nx := fun _ => C (.val .non), rt := fun c _ => C c } (startA N__law_same ds) := by
  rintro ds C - ⟨d, rfl, ok, hC⟩
  cases d with
  | non =>
    have h : D.non.sh := by unfold D.sh toPy; rfl
    exact ⟨h, h, sh_bl _, sh_bl _, sh_bl _, sh_bl _, hC⟩
  | bl b =>
    refine ⟨sh_bl _, sh_bl _, ?_⟩
    exact ifT (by rw [eqv_bl]; simp) ⟨sh_bl _, sh_bl _, sh_bl _, sh_bl _, hC⟩
  | int i =>
    refine ⟨sh_int _, sh_int _, ?_⟩
    show C (.val (.bl ((D.int i).eqv (.int i))))
    rw [show (D.int i).eqv (.int i) = true by rw [eqv_int]; simp]
    exact hC
  | str z =>
    have hz : (D.str z).sh := by cases n <;> exact ok
    refine ⟨hz, hz, ?_⟩
    exact ifT (eqv_str z) ⟨sh_bl _, sh_bl _, sh_bl _, sh_bl _, hC⟩
  | scr ns => cases n <;> exact ok.elim
  | adr a => cases n <;> exact ok.elim
  | exc _ _ => cases n <;> exact ok.elim
  | lst xs =>
    cases n with
    | zero => exact ok.elim
    | succ n =>
      obtain ⟨hl, hx⟩ := ok
      refine ⟨sh_bl _, sh_bl _, sh_bl _, sh_bl _, sh_int _, sh_int _, ifT (by rw [eqv_int]; simp) ?_⟩
      refine lcW_same (fun x hx' K hK => ⟨rfl, rfl, rfl, x, rfl, hx x hx', hK _ rfl⟩) hl ⟨_, map_true xs, ?_⟩
      rw [all_true]; exact hC
  | tup xs =>
    cases n with
    | zero => exact ok.elim
    | succ n =>
      obtain ⟨hl, hx⟩ := ok
      refine ⟨sh_bl _, sh_bl _, sh_bl _, sh_bl _, sh_int _, sh_int _, ifT (by rw [eqv_int]; simp) ?_⟩
      refine lcW_same (fun x hx' K hK => ⟨rfl, rfl, rfl, x, rfl, hx x hx', hK _ rfl⟩) hl ⟨_, map_true xs, ?_⟩
      rw [all_true]; exact hC
theorem okN_ints (n : Nat) {ns : List Int} (h : ns.length ≤ 1000) : okN (n + 1) (.tup (dI ns)) := ⟨by rw [ints_len]; exact h, fun x hx => by
  obtain ⟨i, _, rfl⟩ := List.mem_map.mp hx
  cases n <;> exact trivial⟩
end Pl
namespace Pl
open PySem PySem.Spec PyProof.Rows L2
abbrev Wd := Bool × Int
def windsD (ws : List Wd) : List D := ws.map fun w => windD w.1 w.2
def tD (l : List Int) : D := .tup (dI l)
def Am (d : D) (ws : List Wd) : Prop := d = .lst (windsD ws) ∨ d = .tup (windsD ws)
theorem windsD_len (ws : List Wd) : (windsD ws).length = ws.length := by simp [windsD]
def g__law_slope : FB := fun xs ds C => ∃ n, n ≤ 100000000000 ∧ Bx n xs ∧ ds = [] ∧ ∀ s zs, 0 ≤ s → s < 1000000000 → Bx (n + 4) zs → C (.val (.int s)) zs
theorem rd__law_slope : ∀ a xs ds C, ds.length + 1 = 1 → g__law_slope xs ds C → T__law_slope (g_take 100000000000000) { nx := fun ρ => ∃ ys, ρ[0]? = some (some (.own a ys)) ∧ C (.val .non) ys, rt := fun c ρ => ∃ ys, ρ[0]? = some (some (.own a ys)) ∧ C c ys } (startB N__law_slope a xs ds) := by
  rintro a xs ds C - ⟨n, hn, hB, rfl, hC⟩
  refine ⟨by show (4 : Nat) ≤ sizeLine; decide, xs, rfl, rfl, n, 4, by omega, hB, rfl, by decide, by decide, fun r ys q1 q2 q3 => ?_⟩
  obtain ⟨v, hv⟩ := atI_below (xs := [D.int 4, .int 9, .int 40, .int 1000000000]) q1 q2
  refine ⟨v, hv, ?_⟩
  obtain ⟨wide, rfl, hw0, hw⟩ : ∃ wide, v = .int wide ∧ 0 < wide ∧ wide ≤ 1000000000 := by
    have := mem_of_atI hv
    simp at this
    rcases this with e | e | e | e <;> subst e <;> exact ⟨_, rfl, by decide, by decide⟩
  exact ⟨ys, rfl, rfl, n + 2, wide, by omega, q3, rfl, hw0, by omega, fun s zs a1 a2 a3 => ⟨zs, rfl, hC s zs a1 (by omega) a3⟩⟩
end Pl
namespace Pl
open PySem PySem.Spec PyProof.Rows L2
abbrev vT (l : List Int) : Option Cell := some (.val (.tup (dI l)))
theorem okN_tD (m : Nat) {l : List Int} (h : l.length ≤ 1000) : okN (m + 1) (tD l) := okN_ints m h
theorem okN_two {m : Nat} {d e : D} (h1 : okN m d) (h2 : okN m e) : okN (m + 1) (.lst [d, e]) := ⟨by show (2 : Nat) ≤ 1000; decide, fun x hx => by
  rcases List.mem_cons.mp hx with q | q
  · rw [q]; exact h1
  · rw [List.mem_singleton.mp q]; exact h2⟩
end Pl
namespace Pl
open PySem PySem.Spec PyProof.Rows L2
variable [TJ]
section
variable {X : Cx}
theorem any_toPys (x : D) : ∀ ys : List D, ((toPys ys).any fun z => PyData.eqv z (toPy x)) = ys.any fun z => z.eqv x
  | [] => rfl
  | y :: ys => by
    rw [toPys, List.any_cons, List.any_cons, any_toPys x ys]; rfl
theorem hu65 {k : Nat} {A : Around} (hr : Room k A) : A.units + 65 < cLine := by have := hr.un; omega
end
end Pl
namespace Pl
open PySem PySem.Spec PyProof.Rows L2
variable [TJ]
def pick (is : List Nat) {α : Type} (zs : List α) : List α := is.filterMap (zs[·]?)
theorem Reps.pick {K : PySem.W.Frag} {F : Hp} {vs : List V} {ds : List D} (r : Reps K F vs ds) : ∀ is : List Nat, Reps K F (pick is vs) (pick is ds)
  | [] => .nil
  | i :: is => by
    have ih := Reps.pick r is
    unfold Pl.pick at ih ⊢
    cases e : ds[i]? with
    | none =>
      have : vs[i]? = none := by
        rw [List.getElem?_eq_none_iff] at e ⊢
        rw [r.length]; exact e
      rw [List.filterMap_cons_none this, List.filterMap_cons_none e]
      exact ih
    | some d =>
      obtain ⟨v, hv, rv⟩ := r.get e
      rw [List.filterMap_cons_some hv, List.filterMap_cons_some e]
      exact .cons rv ih
theorem Vals.pick {vs : List V} {us : List Value} (r : Vals vs us) : ∀ is : List Nat, Vals (pick is vs) (pick is us)
  | [] => .nil
  | i :: is => by
    have ih := Vals.pick r is
    unfold Pl.pick at ih ⊢
    cases e : vs[i]? with
    | none =>
      have : us[i]? = none := by
        rw [List.getElem?_eq_none_iff] at e ⊢
        rw [← r.length]; exact e
      rw [List.filterMap_cons_none this, List.filterMap_cons_none e]
      exact ih
    | some v =>
      obtain ⟨u, hu, ru⟩ := L2.Vals.get r e
      rw [List.filterMap_cons_some hu, List.filterMap_cons_some e]
      exact .cons ru ih
theorem fun_kbn {K : PySem.W.Frag} {x qual : Str} {st : Stmt} {f : Addr} {fd : FuncData} {ps : List Str} (F : Fun K x qual st f fd) (ks : List Str) (is : List Nat)
    (h : ∀ (kV doc pm : Value) (an : Option Addr) (cdv ct : Value) (ws : List Value), ws.length = ks.length → bindArgs (PySem.W.fnOf x qual (defArgs st) (defBody st) (defScope st) .none kV doc pm an cdv ct) ⟨[], ks.zip ws⟩ = pure (ps.zip (pick is ws))) :
    KBn K fd ps 0 ks (fun _ ws => pick is ws) (fun _ zs => pick is zs) := by
  obtain ⟨oc, od, kV, doc, pm, an, cdv, ct, osl, rfl, lk, hcd⟩ := F.ex
  refine ⟨fun s us ws _ h0 hl => ?_, fun _ rz => Vals.pick rz is⟩
  cases us with
  | cons _ _ => cases h0
  | nil => exact .of_eq (h kV doc pm an cdv ct ws hl)
section
variable {X : Cx} {k : Nat} {f : Addr} {fd : FuncData} {ps ks : List Str} {x : Str} {p pos : Pos} {kws : List Keyword} {tk : TA} {T : TAp} {n : Nat} {is : List Nat}
structure PPK (X : Cx) (kws : List Keyword) (t : TA) (T : TAp) : Prop where
  pk : PK X kws t
  snd : SndA X.K t T
theorem ppk_nil : PPK X [] tNil pNil := ⟨pk_nil, fun G F H σ ρ Q R S hT k => k _ _ F H ρ (.refl _ _) S .nil hT⟩
theorem ppk_cons {e : Expr} {te : TE} {Te : TEp} {nm : Option Str} {kpos : Pos} {t : TA} (ha : PPE X e te Te) (hr : PPK X kws t T) : PPK X (⟨nm, e, kpos⟩ :: kws) (tCons te t) (pCons Te T) := ⟨pk_cons ha.pe hr.pk, fun G F H σ ρ Q R S hT k =>
  ha.snd G F H σ ρ _ _ S hT fun v d F1 H1 ρ1 u1 S1 r1 h1 => hr.snd G F1 H1 σ ρ1 _ _ S1 h1 fun vs ds F2 H2 ρ2 u2 S2 r2 h2 => k _ _ F2 H2 ρ2 (u1.trans u2) S2 (.cons (r1.mono u2.ex) r2) h2⟩
def pCallK (n m : Nat) (g : FA) (is : List Nat) (T : TAp) : TCp := fun ρ Q => T ρ fun ds ρ1 => ds.length = m ∧ (pick is ds).length = n ∧ g (pick is ds) fun c => Q c ρ1
theorem pe_callK0 {sp : Sp} {E : XK} {CX : CXT} {g : List Value → List Value → List Value} {gV : List V → List V → List V} (F : FnOk X.prog X.w X.K X.mg X.base CX k f fd ps sp) (hr : Room k X.A) (hg : Gl X x) (hm : X.mg x = some (.ref f)) (hk : PySem.W.keepIn X.K (.ref f) = true) (hb : KBn X.K fd ps 0 ks g gV) (hx : Passes CX X E)
    (hkw : PK X kws tk) (hall : (backToKw pos (keywordEach kws X.env)).all (·.1.isSome) = true := by rfl) (hks : (backToKw pos (keywordEach kws X.env)).filterMap (·.1) = ks := by rfl)
    (hdb : (x == ("__debug__" : Str)) = false := by decide) (hpl : ((backTo pos (starEach [] X.env)).any (·.1) || (backToKw pos (keywordEach kws X.env)).any (·.1.isNone)) = false := by rfl) :
    PE X (.Call (.Name x p) [] kws pos) (tCallN 0 ks.length sp gV E tNil tk) := by
  refine ⟨fun pins s σ H Q I h => ?_⟩
  refine wpAny_Call_Name_kw (ld_glob I hg hm ?_ hdb)
  refine PySem.W.callWith_KW0 (h₀ := X.base) I.ok.mod.kin hk hall (thn (hkw.run pos pins s σ H _ I h) fun ws s2 ⟨zs, H2, I2, rz, l1, l2, q2⟩ => ⟨I2.kIn, ?_⟩) hpl
  rw [hks]
  exact run_fnN (us := []) (vs := []) F hr hb hx I2 .nil rz rfl l2 q2
theorem ppc_callK {g : FA} {m : Nat} (Fn : FnOk X.prog X.w X.K X.mg X.base CX0 k f fd ps (spA X.K n g)) (hr : Room k X.A) (hg : Gl X x) (hm : X.mg x = some (.ref f)) (hk : PySem.W.keepIn X.K (.ref f) = true) (hb : KBn X.K fd ps 0 ks (fun _ ws => pick is ws) (fun _ zs => pick is zs)) (ha : PPK X kws tk T)
    (hall : (backToKw pos (keywordEach kws X.env)).all (·.1.isSome) = true := by rfl) (hks : (backToKw pos (keywordEach kws X.env)).filterMap (·.1) = ks := by rfl)
    (hdb : (x == ("__debug__" : Str)) = false := by decide) (hpl : ((backTo pos (starEach [] X.env)).any (·.1) || (backToKw pos (keywordEach kws X.env)).any (·.1.isNone)) = false := by rfl) (hlen : ks.length = m := by rfl) :
    PPC X (.Call (.Name x p) [] kws pos) (tCallN 0 ks.length (spA X.K n g) (fun _ zs => pick is zs) (fun _ _ _ => False) tNil tk) (pCallK n m g is T) := ⟨pe_callK0 Fn hr hg hm hk hb pass0 ha.pk hall hks hdb hpl, fun G F H σ ρ Q R S hT k =>
  ha.snd G F H σ ρ _ _ S hT fun vs ds F1 H1 ρ1 u1 S1 r1 h1 => by
    refine ⟨rfl, by rw [r1.length, hlen]; exact h1.1, F1, pick is ds, _, by rw [(r1.pick is).length]; exact h1.2.1, S1.hF, r1.pick is, h1.2.2, fun v c F' H' u S' q => k v c F' H' ρ1 (u1.trans (u.less S1.hG)) (S1.afterA u S') q⟩⟩
end
end Pl
namespace Pl
open PySem PySem.Spec PyProof.Rows L2
def row (c : Bool) (s : Int) (ns : List Int) (i : Int) : List Int := if c = true then reach s ns i else reachF s ns i
def Wn (w : D) (c : Bool) (s : Int) : Prop := w = windD c s ∨ w = .lst [.str (wordS c), .int s]
def enumFrom (h : Nat → Int → D) (k : Nat) : List Int → List D
  | [] => []
  | x :: r => h k x :: enumFrom h (k + 1) r
end Pl
namespace Pl
open PySem PySem.Spec PyProof.Rows L2
theorem lcW_mapS {α : Type} {vs : List Nat} {g : TGp} {te : TEp} {Q : List D → Ro → Prop} {d f : α → D} {ρ : Ro} : ∀ (xs : List α) (acc : List D), (∀ x ∈ xs, ElemOk vs g te ρ (d x) (f x)) → acc.length + xs.length ≤ sizeLine → Q (acc ++ xs.map f) ρ → lcW vs g pYes te Q (xs.map d) acc ρ
  | [], acc, _, _, hQ => by
    have hQ : Q (acc ++ []) ρ := hQ
    rw [List.append_nil] at hQ
    exact hQ
  | x :: xs, acc, h, hl, hQ => by
    have hl' : acc.length + (xs.length + 1) ≤ sizeLine := hl
    refine h x (by simp) _ fun ρ4 e => ⟨by omega, ?_⟩
    rw [e]
    refine lcW_mapS xs _ (fun y hy => h y (by simp [hy])) (by rw [List.length_append]; show acc.length + 1 + xs.length ≤ sizeLine; omega) ?_
    rw [List.append_assoc]
    exact hQ
end Pl
namespace Pl
open PySem PySem.Spec PyProof.Rows L2
theorem mem_windsD {ws : List Wd} {d : D} (h : d ∈ windsD ws) : ∃ w ∈ ws, d = windD w.1 w.2 := by
  obtain ⟨w, hw, e⟩ := List.mem_map.mp h
  exact ⟨w, hw, e.symm⟩
def g__law_winds : FB := fun xs ds C => ∃ n size, n ≤ 10000000000 ∧ Bx n xs ∧ ds = [.int size] ∧ 0 ≤ size ∧ size ≤ 100 ∧ ∀ a ws zs, (ws.length : Int) ≤ size → (∀ w ∈ ws, 0 ≤ w.2 ∧ w.2 < 1000000000) → Bx (n + 1000) zs → C (.own a (windsD ws)) zs
theorem rd__law_winds : ∀ a xs ds C, ds.length + 1 = 2 → g__law_winds xs ds C → T__law_winds (g_take 100000000000000) g__law_slope { nx := fun ρ => ∃ ys, ρ[0]? = some (some (.own a ys)) ∧ C (.val .non) ys, rt := fun c ρ => ∃ ys, ρ[0]? = some (some (.own a ys)) ∧ C c ys } (startB N__law_winds a xs ds) := by
  rintro a xs ds C - ⟨n, size, hn, hB, rfl, hs0, hs, hC⟩
  refine ⟨xs, rfl, rfl, n, size + 1, by omega, hB, rfl, by omega, by omega, fun many ys q1 q2 q3 => ?_⟩
  refine ⟨by show (-(2 ^ 62) : Int) ≤ many; omega, by show many < (2 ^ 62 : Int); omega, ?_⟩
  refine lcW_inv (fun ds acc ρ => ∃ (ws : List Wd) (zs : List D), (ds.length : Int) + ws.length = many ∧ acc = windsD ws ∧ (∀ w ∈ ws, 0 ≤ w.2 ∧ w.2 < 1000000000) ∧ Bx (n + 2 + 6 * ws.length) zs ∧ ρ = [some (.own a zs), some (.val (.int size)), none]) (fun x r acc ρ K hK hI => ?_) (fun acc ρ hI => ?_) _ _ _ ⟨[], ys, by simp [rangeD]; omega, rfl, by simp, q3, rfl⟩
  · obtain ⟨ws, zs, h1, rfl, h3, h4, rfl⟩ := hI
    have h1' : ((r.length + 1 : Nat) : Int) + ws.length = many := h1
    refine ⟨by show (2 : Nat) ≤ sizeLine; decide, zs, rfl, rfl, _, 2, by omega, h4, rfl, by decide, by decide, fun b zs1 b1 b2 b3 => ?_⟩
    obtain ⟨v, hv⟩ := atI_below (xs := [D.str "cut", .str "fill"]) b1 b2
    refine ⟨v, hv, zs1, rfl, rfl, _, by omega, b3, rfl, fun s zs2 s0 s1 s3 => ⟨by show (2 : Nat) ≤ sizeLine; decide, small1000 (by rw [windsD_len]; omega), ?_⟩⟩
    obtain ⟨c, rfl⟩ : ∃ c, v = .str (wordS c) := by
      have := mem_of_atI hv
      simp at this
      rcases this with e | e
      · exact ⟨true, e⟩
      · exact ⟨false, e⟩
    refine hK _ _ ⟨ws ++ [(c, s)], zs2, by simp; omega, ?_, fun w hw => ?_, s3.mono (by simp; omega), rfl⟩
    · unfold windsD; rw [List.map_append]; rfl
    · rcases List.mem_append.mp hw with hw | hw
      · exact h3 w hw
      · rw [List.mem_singleton.mp hw]; exact ⟨s0, s1⟩
  · obtain ⟨ws, zs, h1, rfl, h3, h4, rfl⟩ := hI
    have h1 : (0 : Int) + ws.length = many := h1
    exact fun p => ⟨zs, rfl, hC p ws zs (by omega) h3 (h4.mono (by omega))⟩
end Pl
namespace Pl
open PySem PySem.Spec PyProof.Rows L2
theorem sh_word (c : Bool) : (D.str (wordS c)).sh := by cases c with | true => exact sh_cut | false => exact sh_fill
theorem canLay_wind (w : Wd) : PyData.canLay0 (toPy (windD w.1 w.2)) = true := by
  obtain ⟨c, s⟩ := w
  cases c with
  | true => show (PyData.canLay0 (.str "cut") && true) = true; decide +kernel
  | false => show (PyData.canLay0 (.str "fill") && true) = true; decide +kernel
theorem canLay_winds : ∀ ws : List Wd, PyData.canLayAll0 (toPys (windsD ws)) = true
  | [] => rfl
  | w :: ws => by
    show (PyData.canLay0 (toPy (windD w.1 w.2)) && PyData.canLayAll0 (toPys (windsD ws))) = true
    rw [canLay_winds ws, canLay_wind w]; rfl
theorem depth_wind (w : Wd) : PyData.depth (toPy (windD w.1 w.2)) = 1 := rfl
theorem depth_winds : ∀ ws : List Wd, PyData.depthAll (toPys (windsD ws)) ≤ 1
  | [] => by decide
  | w :: ws => by
    show max (PyData.depth (toPy (windD w.1 w.2))) (PyData.depthAll (toPys (windsD ws))) ≤ 1
    rw [depth_wind w]; have := depth_winds ws; omega
theorem sh_winds (ws : List Wd) : (D.lst (windsD ws)).sh := by
  show (PyData.canLayAll0 (toPys (windsD ws)) && decide (PyData.depthAll (toPys (windsD ws)) + 1 ≤ 64)) = true
  rw [canLay_winds]
  have := depth_winds ws
  simp; omega
end Pl
namespace Pl
open PySem PySem.Spec PyProof.Rows L2
variable [TJ]
section
variable {X : Cx} {o e : Expr} {to te : TE} {To Te : TEp}
theorem Reps.strs {K : PySem.W.Frag} {F : Hp} : ∀ {vs : List V} {ys : List Str}, Reps K F vs (ys.map D.str) → vs = ys.map V.str
  | _, [], .nil => rfl
  | _, y :: ys, .cons h t => by cases h; rw [Reps.strs t]; rfl
def pJoin (To Te : TEp) : TEp := fun ρ Q => To ρ fun x ρ1 => match x with
  | .str a => Te ρ1 fun y ρ2 => match y with
    | .lst zs => ∃ ys : List Str, zs = ys.map D.str ∧ (ys.map (·.length)).sum + ys.length * a.length ≤ 16777216 ∧ Q (.str (Txt.join a ys)) ρ2
    | _ => False
  | _ => False
theorem ppe_join {apos pos : Pos} (ho : PPE X o to To) (he : PPE X e te Te) (hs : starEach [e] X.env = [(false, eval e X.env)] := by rfl) (hbase : attributeBase o "join" X.env (eval o X.env) = eval o X.env := by rfl) (hline : (apos.endLine == pos.line) = true := by rfl) :
    PPE X (.Call (.Attribute o "join" apos) [e] [] pos) (tM1 (fun x xs H Q => ∃ a p, ∃ ys : List Str, x = .str a ∧ xs = [.ref p] ∧ (SqL X.K H p (ys.map V.str) ∨ SqT X.K H p (ys.map V.str)) ∧ (ys.map (·.length)).sum + ys.length * a.length ≤ 16777216 ∧ Q (.str (Txt.join a ys)) H) to te) (pJoin To Te) := ⟨pe_join ho.pe he.pe hs hbase hline, fun G F H σ ρ Q R S hT k =>
  ho.snd G F H σ ρ _ _ S hT fun v d F1 H1 ρ1 u1 S1 r1 q1 => by
    cases r1 with
    | str a =>
      refine ⟨⟨a, rfl⟩, he.snd G F1 H1 σ ρ1 _ _ S1 q1 fun w dw F2 H2 ρ2 u2 S2 r2 q2 => ?_⟩
      cases r2 with
      | lst h r =>
        obtain ⟨ys, rfl, hz, q⟩ := q2
        have := r.strs
        subst this
        exact ⟨a, _, ys, rfl, rfl, .inl (SqL.of (S2.hF _ _ h)), hz, k _ _ F2 H2 ρ2 (u1.trans u2) S2 (.str _) q⟩
      | _ => exact q2.elim
    | _ => exact q1.elim⟩
end
def signsD (x : Str) : List D := x.cps.toList.map fun c => .str ⟨#[c]⟩
theorem signsD_get {x : Str} {i : Nat} {d : D} (h : (signsD x)[i]? = some d) : ∃ c, x.cps[i]? = some c ∧ d = .str ⟨#[c]⟩ := by
  unfold signsD at h
  rw [List.getElem?_map] at h
  cases e : x.cps.toList[i]? with
  | none => rw [e] at h; cases h
  | some c => rw [e] at h; exact ⟨c, by rw [← Array.getElem?_toList]; exact e, (Option.some.inj h).symm⟩
theorem signsD_len (x : Str) : (signsD x).length = x.cps.size := by simp [signsD]
theorem itrep_str {K : PySem.W.Frag} {F : Hp} (x : Str) : ItRep K (Its x) F (signsD x) := fun F' H e1 e2 => by
  refine ⟨fun i d hd => ?_, by show x.cps.size ≤ (signsD x).length; rw [signsD_len]; exact Nat.le_refl _⟩
  obtain ⟨c, hc, rfl⟩ := signsD_get hd
  refine ⟨(Array.getElem?_eq_some_iff.mp hc).1, fun v H' y => ?_⟩
  obtain ⟨rfl, c', hc', rfl⟩ := y
  rw [hc] at hc'
  cases hc'
  exact ⟨F', .old (.str _)⟩
section
variable {X : Cx} {tg : Expr} {l : Expr} {tl : TE} {Tl : TEp} {pos : Pos}
def jStr (T : TEp) : TAp := fun ρ Q => T ρ fun d ρ1 => match d with | .str x => Q (signsD x) ρ1 | _ => False
theorem ppi_str (hl : PPE X l tl Tl) : PPI X tg l (iStr tl) (jStr Tl) := ⟨pi_str hl.pe, fun G F H σ ρ Q R S hT k =>
  hl.snd G F H σ ρ _ _ S hT fun v d F1 H1 ρ1 u1 S1 r1 q1 => by
    cases r1 with
    | str x => exact ⟨x, rfl, k _ _ F1 H1 ρ1 u1 S1 (itrep_str x) q1⟩
    | _ => exact q1.elim⟩
end
end Pl
namespace Pl
open PySem PySem.Spec PyProof.Rows L2
variable [TJ]
section
variable {X : Cx} {a : Expr} {ta : TE} {Ta : TEp} {pos : Pos}
def pSlS (Te : TEp) (Tl Th : TOp) : TEp := fun ρ Q => Te ρ fun x ρ1 => Tl ρ1 fun l ρ2 => Th ρ2 fun u ρ3 => match x with
  | .str z => z.length ≤ sizeLine ∧ Q (.str (cutS z l u)) ρ3
  | _ => False
theorem ppe_sliceS {lo hi : Option Expr} {tl th : TO} {Tl Th : TOp} {p2 : Pos} (ha : PPE X a ta Ta) (hl : PPO X lo tl Tl) (hh : PPO X hi th Th) : PPE X (.Subscript a (.Slice lo hi none p2) pos) (tSl rSlS ta tl th) (pSlS Ta Tl Th) := ⟨pe_slice sl_str ha.pe hl.po hh.po, fun G F H σ ρ Q R S hT k =>
  ha.snd G F H σ ρ _ _ S hT fun v d F1 H1 ρ1 u1 S1 r1 q1 => hl.snd G F1 H1 σ ρ1 _ _ S1 q1 fun l F2 H2 ρ2 u2 S2 q2 => hh.snd G F2 H2 σ ρ2 _ _ S2 q2 fun h F3 H3 ρ3 u3 S3 q3 => by
    have up := (u1.trans u2).trans u3
    cases r1 with
    | str z => exact ⟨z, rfl, q3.1, k _ _ F3 H3 ρ3 up S3 (.str _) q3.2⟩
    | _ => exact q3.elim⟩
end
end Pl
namespace Pl
open PySem PySem.Spec PyProof.Rows L2
variable [TJ]
abbrev TCs := Ro → (List Cell → Ro → Prop) → Prop
def CellOk (K : PySem.W.Frag) (G F H : Hp) (ρ : Ro) (v : V) (c : Cell) : Prop := match c with
  | .val d => Rep K F v d
  | .own p xs => v = .ref p ∧ F p = none ∧ G p = none ∧ NotOwn ρ p ∧ ∃ us, H p = some (.lst us) ∧ Reps K F us xs
  | .box _ => False
def CellsOk (K : PySem.W.Frag) (G F H : Hp) (ρ : Ro) : List V → List Cell → Prop
  | [], [] => True
  | v :: vs, c :: cs => CellOk K G F H ρ v c ∧ CellsOk K G F H ρ vs cs ∧ ∀ p xs, c = .own p xs → ∀ q ys, Cell.own q ys ∈ cs → q ≠ p
  | _, _ => False
theorem CellsOk.less {K : PySem.W.Frag} {G F H : Hp} {ρ : Ro} {p : Addr} {o : HO} : ∀ {vs : List V} {cs : List Cell}, CellsOk K (upd G p o) F H ρ vs cs → CellsOk K G F H ρ vs cs
  | [], [], _ => trivial
  | v :: vs, c :: cs, g => by
    refine ⟨?_, CellsOk.less g.2.1, g.2.2⟩
    cases c with
    | val d => exact g.1
    | own q xs =>
      obtain ⟨h1, h2, h3, h4⟩ := g.1
      have n : q ≠ p := fun z => by rw [z, upd_same] at h3; cases h3
      exact ⟨h1, h2, by rw [upd_ne n] at h3; exact h3, h4⟩
    | box s => exact g.1
  | [], _ :: _, g => g.elim
  | _ :: _, [], g => g.elim
section
variable {X : Cx} {e : Expr} {es : List Expr} {te : TE} {t : TA} {T : TCs} {Tc : TCp} {pos : Pos}
theorem CellsOk.len {K : PySem.W.Frag} {G F H : Hp} {ρ : Ro} : ∀ {vs : List V} {cs : List Cell}, CellsOk K G F H ρ vs cs → vs.length = cs.length
  | [], [], _ => rfl
  | _ :: _, _ :: _, h => congrArg (· + 1) (CellsOk.len h.2.1)
  | [], _ :: _, h => h.elim
  | _ :: _, [], h => h.elim
end
end Pl
namespace Pl
open PySem PySem.Spec PyProof.Rows L2
variable [TJ]
theorem Reps.dropLast {K : PySem.W.Frag} {F : Hp} : ∀ {vs : List V} {ds : List D}, Reps K F vs ds → Reps K F vs.dropLast ds.dropLast
  | _, _, .nil => .nil
  | _, _, .cons _ .nil => .nil
  | _, _, .cons r (.cons r2 t) => .cons r (Reps.dropLast (.cons r2 t))
end Pl
namespace Pl
open PySem PySem.Spec PyProof.Rows L2
section
variable {α β : Type} {vs : List Nat} {g : TGp} {tt : TTp} {te : TEp} {tb : TSp} {P : PEnds} {Q : List D → Ro → Prop} {ρ : Ro}
theorem lc_mp {ds : List D} (xs : List α) (d f : α → D) (e : ds = xs.map d) (h : ∀ x ∈ xs, ElemOk vs g te ρ (d x) (f x)) (hl : xs.length ≤ 1000) (hQ : Q (xs.map f) ρ) : lcW vs g pYes te Q ds [] ρ := by
  subst e
  exact lcW_mapS xs [] h (by rw [List.length_nil, Nat.zero_add]; exact sl1000 hl) hQ
theorem rangeD_nat (n : Nat) : rangeD 0 n = (List.range n).map fun (j : Nat) => D.int (j : Int) := by
  unfold rangeD
  apply List.map_congr_left
  intro j _
  rw [Int.zero_add]
theorem forW_mp : ∀ (xs : List α) (d : α → D) (ρ : Ro) (I : List α → Ro → Prop), I xs ρ → (∀ (x : α) (r : List α) (ρ : Ro) (K : Ro → Prop), I (x :: r) ρ → (∀ ρ', I r ρ' → K ρ') → g (d x) ρ fun ρ1 => tb { P with nx := K, ct := K, bk := P.nx } ρ1) → (∀ ρ, I [] ρ → P.nx ρ) → forW g tb P (xs.map d) ρ
  | [], d, ρ, I, h, _, he => he ρ h
  | x :: xs, d, ρ, I, h, hs, he => hs x xs ρ _ h fun ρ' h' => forW_mp xs d ρ' I h' hs he
theorem fr_mp {ds : List D} (xs : List α) (d : α → D) (I : List α → Ro → Prop) (e : ds = xs.map d) (h0 : I xs ρ) (hs : ∀ (x : α) (r : List α) (ρ : Ro) (K : Ro → Prop), I (x :: r) ρ → (∀ ρ', I r ρ' → K ρ') → g (d x) ρ fun ρ1 => tb { P with nx := K, ct := K, bk := P.nx } ρ1) (he : ∀ ρ, I [] ρ → P.nx ρ) : forW g tb P ds ρ := by
  subst e
  exact forW_mp xs d ρ I h0 hs he
theorem forW_rg (I : Nat → Ro → Prop) (n : Nat) (hs : ∀ (j : Nat) (ρ : Ro) (K : Ro → Prop), j < n → I j ρ → (∀ ρ', I (j + 1) ρ' → K ρ') → g (.int (j : Int)) ρ fun ρ1 => tb { P with nx := K, ct := K, bk := P.nx } ρ1) (he : ∀ ρ, I n ρ → P.nx ρ) : ∀ (k j : Nat) (ρ : Ro), k + j = n → I j ρ → forW g tb P ((List.range' j k).map fun (j : Nat) => D.int (j : Int)) ρ
  | 0, j, ρ, e, h => he ρ (by rw [← e, Nat.zero_add]; exact h)
  | k + 1, j, ρ, e, h => by
    rw [List.range'_succ, List.map_cons]
    exact hs j ρ _ (by omega) h fun ρ' h' => forW_rg I n hs he k (j + 1) ρ' (by omega) h'
theorem fr_rg {m : Nat} (n : Nat) (I : Nat → Ro → Prop) (e : m = n) (h0 : I 0 ρ) (hs : ∀ (j : Nat) (ρ : Ro) (K : Ro → Prop), j < n → I j ρ → (∀ ρ', I (j + 1) ρ' → K ρ') → g (.int (j : Int)) ρ fun ρ1 => tb { P with nx := K, ct := K, bk := P.nx } ρ1) (he : ∀ ρ, I n ρ → P.nx ρ) : forW g tb P (rangeD 0 m) ρ := by
  subst e
  rw [rangeD_nat, List.range_eq_range']
  exact forW_rg I m hs he m 0 ρ (by omega) h0
theorem fr_en {ds : List D} (xs : List α) (d : α → D) (I : Nat → List α → Ro → Prop) (e : ds = xs.map d) (h0 : I 0 xs ρ) (hs : ∀ (k : Nat) (x : α) (r : List α) (ρ : Ro) (K : Ro → Prop), I k (x :: r) ρ → (∀ ρ', I (k + 1) r ρ' → K ρ') → g (.tup [.int (k : Int), d x]) ρ fun ρ1 => tb { P with nx := K, ct := K, bk := P.nx } ρ1) (he : ∀ k ρ, I k [] ρ → P.nx ρ) : forW g tb P (enumD 0 ds) ρ := by
  subst e
  have key : ∀ (xs : List α) (k : Nat) (ρ : Ro), I k xs ρ → forW g tb P (enumD k (xs.map d)) ρ := by
    intro xs
    induction xs with
    | nil => exact fun k ρ h => he k ρ h
    | cons x xs ih => exact fun k ρ h => hs k x xs ρ _ h fun ρ' h' => ih (k + 1) ρ' h'
  exact key xs 0 ρ h0
end
end Pl
namespace Pl
open PySem PySem.Spec PyProof.Rows L2
variable [TJ]
def isOwn (ρ : Ro) (b : Addr) : Prop := ∃ (i : Nat) (xs : List D), ρ[i]? = some (some (.own b xs))
theorem CellOk.more {K : PySem.W.Frag} {G F H : Hp} {ρ : Ro} {v : V} {c : Cell} {p : Addr} {o : HO} (h : CellOk K G F H ρ v c) (hp : H p = none) : CellOk K G F (upd H p o) ρ v c := by
  cases c with
  | val d => exact h
  | own q xs =>
    obtain ⟨h1, h2, h3, h4, us, h5, h6⟩ := h
    exact ⟨h1, h2, h3, h4, us, by rw [upd_ne (ne_of_none h5 hp)]; exact h5, h6⟩
  | box s => exact h
def stepD (i c : Int) (n : Nat) : List D := (List.range n).map fun (j : Nat) => .int (i + (j : Int) * c)
section
variable {X : Cx} {pos : Pos}
def jRng3 (T : TAp) : TAp := fun ρ Q => T ρ fun ds ρ1 => match ds with | [.int i, .int j, .int c] => ∃ n, RgC i j c n ∧ Q (stepD i c n) ρ1 | _ => False
theorem itrep_rngc {K : PySem.W.Frag} {F : Hp} (i c : Int) (n : Nat) : ItRep K (Itc i c n) F (stepD i c n) := fun F' H e1 e2 => by
  refine ⟨fun k d hd => ?_, by show n ≤ (stepD i c n).length; simp [stepD]⟩
  unfold stepD at hd
  have hk : k < n := by have := lt_of_get hd; simpa using this
  rw [List.getElem?_map, List.getElem?_range hk] at hd
  have hd : D.int (i + (k : Int) * c) = d := Option.some.inj hd
  refine ⟨hk, fun x H' y => ?_⟩
  obtain ⟨rfl, rfl⟩ := y
  rw [← hd]
  exact ⟨F', .old (.int _)⟩
theorem ppi_range3 {tg a b c : Expr} {ta : TA} {TA' : TAp} {p : Pos} (hg : Gl X "range") (hm : X.mg "range" = none) (ha : PPA X [a, b, c] ta TA')
    (hs : starEach [a, b, c] X.env = (false, eval a X.env) :: starEach [b, c] X.env := by rfl) (hpl : (backTo pos (starEach [b, c] X.env)).any (·.1) = false := by rfl) :
    PPI X tg (.Call (.Name "range" p) [a, b, c] [] pos) (iRng3 ta) (jRng3 TA') := ⟨pi_range3 hg hm ha.pa hs hpl, fun G F H σ ρ Q R S h k =>
  ha.snd G F H σ ρ _ _ S h fun vs ds F' H' ρ' u S' rv q => by
    match ds, rv, q with
    | [.int i, .int j, .int c], .cons r1 (.cons r2 (.cons r3 .nil)), q =>
      cases r1; cases r2; cases r3
      obtain ⟨n, hr, q⟩ := q
      exact ⟨i, j, c, n, rfl, hr, k _ _ F' H' ρ' u S' (itrep_rngc i c n) q⟩⟩
end
def fStrI : FC := fun ds Q => match ds with
  | [.int i] => i.natAbs.log2 < 1920 ∧ Q (.str (toString i))
  | _ => False
theorem cp_strI {K : PySem.W.Frag} : CallP K (fun xs H Q => ∃ i, xs = [.int i] ∧ i.natAbs.log2 < 1920 ∧ Q (.str (toString i)) H) fStrI := fun F H xs ds Q R hs r hf k => by
  match ds, r, hf with
  | [.int i], .cons r1 .nil, hf =>
    cases r1
    exact ⟨i, rfl, hf.1, k _ _ F H (.old (.str _)) hf.2⟩
end Pl
namespace Pl
open PySem PySem.Spec PyProof.Rows L2
abbrev EA (C : Cell → Prop) : PEnds := { nx := fun _ => C (.val .non), rt := fun c _ => C c }
end Pl
namespace Pl
open PySem PySem.Spec PyProof.Rows L2
def All2 (Pd : D → Int → Prop) : List D → List Int → Prop
  | [], [] => True
  | d :: ds, y :: ys => Pd d y ∧ All2 Pd ds ys
  | _, _ => False
theorem All2.length {Pd : D → Int → Prop} : ∀ {ds : List D} {ys : List Int}, All2 Pd ds ys → ys.length = ds.length
  | [], [], _ => rfl
  | _ :: ds, _ :: ys, h => by simp [All2.length h.2]
  | [], _ :: _, h => h.elim
  | _ :: _, [], h => h.elim
theorem All2.mem {Pd : D → Int → Prop} : ∀ {ds : List D} {ys : List Int} {y : Int}, All2 Pd ds ys → y ∈ ys → ∃ d ∈ ds, Pd d y
  | [], [], _, _, h => by simp at h
  | d :: ds, z :: ys, y, h, hy => by
    rcases List.mem_cons.mp hy with e | hy
    · subst e; exact ⟨d, by simp, h.1⟩
    · obtain ⟨e, he, p⟩ := All2.mem h.2 hy
      exact ⟨e, by simp [he], p⟩
  | [], _ :: _, _, h, _ => h.elim
  | _ :: _, [], _, h, _ => h.elim
end Pl
namespace Pl
open PySem PySem.Spec PyProof.Rows L2
def fs : List Wd → Int → Option Bool
  | [], _ => none
  | w :: ws, t => if w.2 ≤ t then some w.1 else fs ws t
end Pl
namespace Pl
open PySem PySem.Spec PyProof.Rows L2
def AmW (a : D) (ws : List Wd) : Prop := ∃ ps : List (D × Wd), (a = .lst (ps.map Prod.fst) ∨ a = .tup (ps.map Prod.fst)) ∧ (∀ p ∈ ps, Wn p.1 p.2.1 p.2.2) ∧ ps.map Prod.snd = ws
theorem Am.w {a : D} {ws : List Wd} (h : Am a ws) : AmW a ws := by
  refine ⟨ws.map fun w => (windD w.1 w.2, w), ?_, fun p hp => ?_, by rw [List.map_map]; exact List.map_id' ws⟩
  · rcases h with rfl | rfl
    · exact .inl (by rw [List.map_map]; rfl)
    · exact .inr (by rw [List.map_map]; rfl)
  · obtain ⟨w, _, rfl⟩ := List.mem_map.mp hp
    exact .inl rfl
theorem AmW.lst (ws : List Wd) : AmW (.lst (windsD ws)) ws := Am.w (.inl rfl)
end Pl
namespace Pl
open PySem PySem.Spec PyProof.Rows L2
abbrev vW (ws : List Wd) : Option Cell := some (.val (.lst (windsD ws)))
abbrev vo (a : Addr) (zs : List D) : Option Cell := some (.own a zs)
end Pl
namespace Pl
open PySem PySem.Spec PyProof.Rows L2
def Pw (ws : List Wd) : Prop := ∀ w ∈ ws, 0 ≤ w.2
theorem Pw.take {ws : List Wd} (h : Pw ws) (j : Nat) : Pw (ws.take j) := fun w hw => h w (List.mem_of_mem_take hw)
theorem Pw.drop {ws : List Wd} (h : Pw ws) (j : Nat) : Pw (ws.drop j) := fun w hw => h w (List.mem_of_mem_drop hw)
theorem Pw.app {a b : List Wd} (h : Pw a) (g : Pw b) : Pw (a ++ b) := fun w hw => by
  rcases List.mem_append.mp hw with q | q
  · exact h w q
  · exact g w q
theorem Pw.one {w : Wd} (h : 0 ≤ w.2) : Pw [w] := fun v hv => by rw [List.mem_singleton.mp hv]; exact h
end Pl
namespace Pl
open PySem PySem.Spec PyProof.Rows L2
theorem AmW.tup (ws : List Wd) : AmW (.tup (windsD ws)) ws := Am.w (.inr rfl)
theorem okN_winds2 {cs : List Wd} (h : cs.length ≤ 1000) : okN 2 (.lst (windsD cs)) := ⟨by rw [windsD_len]; exact h, fun x hx => by
  obtain ⟨w, _, rfl⟩ := mem_windsD hx
  exact ⟨by show (2 : Nat) ≤ 1000; decide, fun y hy => by
    rcases List.mem_cons.mp hy with rfl | hy
    · exact sh_word _
    · rw [List.mem_singleton.mp hy]; trivial⟩⟩
end Pl
namespace Pl
open PySem PySem.Spec PyProof.Rows L2
variable [TJ]
def NEl (K : PySem.W.Frag) (G F H : Hp) (ρ : Ro) (p : Addr) (xs : List D) : Prop := F p = none ∧ G p = none ∧ NotOwn ρ p ∧ ∃ us, H p = some (.lst us) ∧ Reps K F us xs
structure Nst (K : PySem.W.Frag) (G F H : Hp) (σ : L2.St) (ρ : Ro) (i : Nat) (q : Addr) (es : List (Addr × List D)) : Prop where
  sl : σ[i]? = some (some (.ref q))
  z : ρ[i]? = some none
  nf : F q = none
  ng : G q = none
  no : NotOwn ρ q
  hq : H q = some (.lst (es.map fun e => V.ref e.1))
  el : ∀ e ∈ es, NEl K G F H ρ e.1 e.2
  nd : (q :: es.map (·.1)).Nodup
open Classical in
noncomputable def plusG (G H : Hp) (as : List Addr) : Hp := fun b => if b ∈ as then H b else G b
theorem plus_in {G H : Hp} {as : List Addr} {b : Addr} (h : b ∈ as) : plusG G H as b = H b := by unfold plusG; rw [if_pos h]
theorem plus_out {G H : Hp} {as : List Addr} {b : Addr} (h : b ∉ as) : plusG G H as b = G b := by unfold plusG; rw [if_neg h]
section
variable {K : PySem.W.Frag} {G F H F1 H1 : Hp} {σ : L2.St} {ρ ρ1 : Ro} {i : Nat} {q : Addr} {es : List (Addr × List D)}
theorem Sim.rebase (S : Sim K G F H σ ρ) (hF : Same F H1) (hG : SameJ G F H1) (ho : ∀ b, isOwn ρ b ∨ InBox ρ b → H1 b = H b) : Sim K G F H1 σ ρ :=
  ⟨hF, hG, S.len, S.val, fun i a xs e => by
    obtain ⟨h1, h2, h3, vs, h4, h5⟩ := S.own i a xs e
    exact ⟨h1, h2, h3, vs, by rw [ho a (.inl ⟨i, xs, e⟩)]; exact h4, h5⟩, S.ne, S.bx.heap (.refl _) fun p m => ⟨(S.bx.free m).1, (S.bx.free m).2.1, ho p (.inr m)⟩⟩
abbrev adrs (q : Addr) (es : List (Addr × List D)) : List Addr := q :: es.map (·.1)
theorem Nst.free (N : Nst K G F H σ ρ i q es) {b : Addr} (h : b ∈ adrs q es) : F b = none ∧ G b = none ∧ NotOwn ρ b ∧ ∃ us, H b = some (.lst us) := by
  rcases List.mem_cons.mp h with e | h
  · subst e; exact ⟨N.nf, N.ng, N.no, _, N.hq⟩
  · obtain ⟨e, he, rfl⟩ := List.mem_map.mp h
    obtain ⟨h1, h2, h3, us, h4, _⟩ := N.el e he
    exact ⟨h1, h2, h3, us, h4⟩
theorem Nst.same {A : Hp} (N : Nst K G F H σ ρ i q es) (h : ∀ b ∈ adrs q es, A b = none) : Same A (plusG A H (adrs q es)) := fun b o e => by
  rw [plus_out fun z => by rw [h b z] at e; cases e]; exact e
theorem Nst.guard (S : Sim K G F H σ ρ) (N : Nst K G F H σ ρ i q es) : Sim K (plusG G H (adrs q es)) F H σ ρ :=
  ⟨S.hF, ⟨fun b o e => by
    by_cases h : b ∈ adrs q es
    · rw [plus_in h] at e; exact e
    · rw [plus_out h] at e; exact S.hG b o e, TJ.frame S.hG.tj fun b o e => by
    by_cases h : b ∈ adrs q es
    · obtain ⟨_, _, _, us, h4⟩ := N.free h
      exact .inr ⟨_, h4, trivial⟩
    · rw [plus_out h] at e; exact .inl e⟩, S.len, S.val, fun j a xs e => by
    obtain ⟨h1, h2, h3, h4⟩ := S.own j a xs e
    exact ⟨h1, h2, by rw [plus_out fun z => (N.free z).2.2.1.1 j xs e]; exact h3, h4⟩, S.ne, S.bx.heap (.refl _) fun p m => ⟨(S.bx.free m).1, by rw [plus_out fun z => (N.free z).2.2.1.2 m]; exact (S.bx.free m).2.1, rfl⟩⟩
theorem Nst.mut (S : Sim K G F H σ ρ) (N : Nst K G F H σ ρ i q es) {j : Nat} {e : Addr × List D} {vs : List V} {ys : List D} (he : es[j]? = some e) (r : Reps K F vs ys) :
    Sim K G F (upd H e.1 (.lst vs)) σ ρ ∧ Nst K G F (upd H e.1 (.lst vs)) σ ρ i q (es.set j (e.1, ys)) := by
  have hm : e ∈ es := List.mem_of_getElem? he
  obtain ⟨h1, h2, h3, us, h4, h5⟩ := N.el e hm
  have hj : j < es.length := by
    rcases Nat.lt_or_ge j es.length with h | h
    · exact h
    · rw [List.getElem?_eq_none h] at he; cases he
  have nq : q ≠ e.1 := fun z => (List.nodup_cons.mp N.nd).1 (z ▸ List.mem_map.mpr ⟨e, hm, rfl⟩)
  have em : (es.set j (e.1, ys)).map (fun x => x.1) = es.map (fun x => x.1) := by
    rw [List.map_set]
    refine List.ext_getElem? fun k => ?_
    by_cases hk : j = k
    · subst hk
      rw [List.getElem?_set_self (by rw [List.length_map]; exact hj), List.getElem?_map, he]; rfl
    · rw [List.getElem?_set_ne hk]
  refine ⟨S.rebase (fun b o z => ?_) (S.hG.mut h2 h4) (fun b hb => ?_), ⟨N.sl, N.z, N.nf, N.ng, N.no, ?_, fun x hx => ?_, by rw [em]; exact N.nd⟩⟩
  · rw [upd_ne fun y => by subst y; rw [h1] at z; cases z]; exact S.hF b o z
  · rcases hb with ⟨k, xs, z⟩ | hb
    · rw [upd_ne fun y => by subst y; exact h3.1 k xs z]
    · rw [upd_ne fun y => by subst y; exact h3.2 hb]
  · rw [upd_ne nq, N.hq]
    have : (es.set j (e.1, ys)).map (fun x => V.ref x.1) = es.map (fun x => V.ref x.1) := by
      have := congrArg (List.map V.ref) em
      rw [List.map_map, List.map_map] at this; exact this
    rw [this]
  · rcases List.mem_or_eq_of_mem_set hx with hx' | hx'
    · by_cases hxe : x.1 = e.1
      ·
        obtain ⟨k, hk⟩ := List.getElem?_of_mem hx
        by_cases hjk : j = k
        · subst hjk
          rw [List.getElem?_set_self hj] at hk
          cases hk
          exact ⟨h1, h2, h3, vs, upd_same, r⟩
        · rw [List.getElem?_set_ne hjk] at hk
          have nd := (List.nodup_cons.mp N.nd).2
          have a1 : (es.map (·.1))[j]? = some e.1 := by rw [List.getElem?_map, he]; rfl
          have a2 : (es.map (·.1))[k]? = some x.1 := by rw [List.getElem?_map, hk]; rfl
          have hkl : k < (es.map (·.1)).length := by
            rcases Nat.lt_or_ge k (es.map (·.1)).length with h | h
            · exact h
            · rw [List.getElem?_eq_none h] at a2; cases a2
          exact absurd ((List.getElem?_inj (by rw [List.length_map]; exact hj) nd).mp (by rw [a1, a2, hxe])) hjk
      · obtain ⟨g1, g2, g3, ws, g4, g5⟩ := N.el x hx'
        exact ⟨g1, g2, g3, ws, by rw [upd_ne hxe]; exact g4, g5⟩
    · subst hx'
      exact ⟨h1, h2, h3, vs, upd_same, r⟩
end
section
variable {X : Cx} {i : Nat} {st a rest : List Stmt} {t u : TS} {T : TSp} {U : List (List D) → TSp} {e : Expr} {es : List Expr} {te : TE} {ta : TA} {Te : TEp} {Tc : TCs} {pos : Pos}
theorem NEl.more {K : PySem.W.Frag} {G F H : Hp} {ρ : Ro} {p r : Addr} {xs : List D} {o : HO} {i : Nat} (h : NEl K G F H ρ p xs) (hr : H r = none) : NEl K G F (upd H r o) (ρ.set i none) p xs := by
  obtain ⟨h1, h2, h3, us, h4, h5⟩ := h
  refine ⟨h1, h2, ⟨fun j ys e => ?_, fun m => h3.2 (set_inbox (by simp) m)⟩, us, by rw [upd_ne (ne_of_none h4 hr)]; exact h4, h5⟩
  by_cases hj : i = j
  · subst hj
    by_cases hi : i < ρ.length
    · rw [List.getElem?_set_self hi] at e; cases e
    · rw [List.getElem?_eq_none (by simpa using hi)] at e; cases e
  · rw [List.getElem?_set_ne hj] at e; exact h3.1 j ys e
end
end Pl
namespace Pl
open PySem PySem.Spec PyProof.Rows L2
section
variable {X : Cx}
def rInT (K : PySem.W.Frag) : R2 := fun x y H Q => ∃ d ds, Dp K H x d ∧ Dp K H y (.tuple ds) ∧ SeqAt.shaped d = true ∧ SeqAt.shaped (.tuple ds) = true ∧ Q (.bl (ds.any fun z => PyData.eqv z d)) H
def rNotInT (K : PySem.W.Frag) : R2 := fun x y H Q => ∃ d ds, Dp K H x d ∧ Dp K H y (.tuple ds) ∧ SeqAt.shaped d = true ∧ SeqAt.shaped (.tuple ds) = true ∧ Q (.bl (!ds.any fun z => PyData.eqv z d)) H
theorem op_inT (hu : X.A.units + 65 < cLine) : OpR X (compareOp .In) (rInT X.K) := by
  intro pins s σ H x y v u Q I rx ry h
  obtain ⟨d, ds, hd, he, sd, se, q⟩ := h
  obtain ⟨as, r1⟩ := Dp.reads I d x v hd rx
  obtain ⟨bs, r2⟩ := Dp.reads I (.tuple ds) y u he ry
  exact SeqAt.in_tuple_reads r2 r1 (SeqAt.canLay_of_shaped se) (SeqAt.canLay_of_shaped sd) (room_in_shaped sd hu) ⟨.bl _, H, I, rfl, q⟩
theorem op_notInT (hu : X.A.units + 65 < cLine) : OpR X (compareOp .NotIn) (rNotInT X.K) := by
  intro pins s σ H x y v u Q I rx ry h
  obtain ⟨d, ds, hd, he, sd, se, q⟩ := h
  obtain ⟨as, r1⟩ := Dp.reads I d x v hd rx
  obtain ⟨bs, r2⟩ := Dp.reads I (.tuple ds) y u he ry
  exact SeqAt.notIn_tuple_reads r2 r1 (SeqAt.canLay_of_shaped se) (SeqAt.canLay_of_shaped sd) (room_in_shaped sd hu) ⟨.bl _, H, I, rfl, q⟩
def fInT : F2 := fun x y Q => match y with
  | .tup ys => x.sh ∧ (D.tup ys).sh ∧ Q (.bl (ys.any fun z => z.eqv x))
  | _ => False
def fNotInT : F2 := fun x y Q => match y with
  | .tup ys => x.sh ∧ (D.tup ys).sh ∧ Q (.bl (!ys.any fun z => z.eqv x))
  | _ => False
theorem cm_inT (hu : X.A.units + 65 < cLine) : Cmp X .In (rInT X.K) fInT := ⟨op_inT hu, fun F H x y dx dy Q R hs rx ry hf k => by
  cases ry with
  | @tup a vs ys h r =>
    obtain ⟨h1, h2, q⟩ := hf
    refine ⟨toPy dx, toPys ys, rx.dp hs h1, ?_, h1, ?_, ?_⟩
    · have := (Rep.tup h r).dp hs h2; rw [toPy] at this; exact this
    · unfold D.sh at h2; rw [toPy] at h2; exact h2
    · rw [any_toPys]; exact k _ _ _ _ (.old (.bl _)) q
  | _ => exact hf.elim⟩
theorem cm_ninT (hu : X.A.units + 65 < cLine) : Cmp X .NotIn (rNotInT X.K) fNotInT := ⟨op_notInT hu, fun F H x y dx dy Q R hs rx ry hf k => by
  cases ry with
  | @tup a vs ys h r =>
    obtain ⟨h1, h2, q⟩ := hf
    refine ⟨toPy dx, toPys ys, rx.dp hs h1, ?_, h1, ?_, ?_⟩
    · have := (Rep.tup h r).dp hs h2; rw [toPy] at this; exact this
    · unfold D.sh at h2; rw [toPy] at h2; exact h2
    · rw [any_toPys]; exact k _ _ _ _ (.old (.bl _)) q
  | _ => exact hf.elim⟩
end
end Pl
namespace Pl
open PySem PySem.Spec PyProof.Rows L2
variable [TJ]
def fIntS : FC := fun ds Q => match ds with
  | [.str a] => ∃ n, PySem.intText? a = some n ∧ a.length ≤ 640 ∧ Q (.int n)
  | _ => False
theorem cp_intS {K : PySem.W.Frag} : CallP K (fun xs H Q => ∃ a n, xs = [.str a] ∧ PySem.intText? a = some n ∧ a.length ≤ 640 ∧ Q (.int n) H) fIntS := fun F H xs ds Q R hs r hf k => by
  match ds, r, hf with
  | [.str a], .cons r1 .nil, hf =>
    cases r1
    obtain ⟨n, h1, h2, h3⟩ := hf
    exact ⟨a, n, rfl, h1, h2, k _ _ F H (.old (.int _)) h3⟩
def fInSg : F2 := fun x y Q => match x, y with
  | .str a, .str z => ∃ c : Nat, a = ⟨#[c]⟩ ∧ Q (.bl (decide (c ∈ z.cps.toList)))
  | _, _ => False
theorem cm_inSg {X : Cx} : Cmp X .In (fun x y H Q => ∃ (c : Nat) (z : Str), x = .str ⟨#[c]⟩ ∧ y = .str z ∧ Q (.bl (decide (c ∈ z.cps.toList))) H) fInSg := ⟨op_in_sign, fun F H x y dx dy Q R hs rx ry hf k => by
  cases rx with
  | str a =>
    cases ry with
    | str z =>
      obtain ⟨c, rfl, q⟩ := hf
      exact ⟨c, z, rfl, rfl, k _ _ F H (.old (.bl _)) q⟩
    | _ => exact hf.elim
  | _ => exact hf.elim⟩
section
variable {X : Cx} {o e : Expr} {to te : TE} {To Te : TEp}
def pSplit (To Te : TEp) : TEp := fun ρ Q => To ρ fun x ρ1 => match x with
  | .str a => Te ρ1 fun y ρ2 => match y with
    | .str b => (b.length == 0) = false ∧ a.length + 2 ≤ sizeLine ∧ Q (.lst ((Txt.split a b).map D.str)) ρ2
    | _ => False
  | _ => False
theorem reps_strs {K : PySem.W.Frag} {F : Hp} : ∀ ys : List Str, Reps K F (ys.map V.str) (ys.map D.str)
  | [] => .nil
  | _ :: ys => .cons (.str _) (reps_strs ys)
theorem ppe_split {apos pos : Pos} (ho : PPE X o to To) (he : PPE X e te Te) (hs : starEach [e] X.env = [(false, eval e X.env)] := by rfl) (hbase : attributeBase o "split" X.env (eval o X.env) = eval o X.env := by rfl) (hline : (apos.endLine == pos.line) = true := by rfl) :
    PPE X (.Call (.Attribute o "split" apos) [e] [] pos) (tM1 (fun x xs H Q => ∃ a b, x = .str a ∧ xs = [.str b] ∧ (b.length == 0) = false ∧ a.length + 2 ≤ sizeLine ∧ rNewStrs (Txt.split a b) H Q) to te) (pSplit To Te) := ⟨pe_split ho.pe he.pe hs hbase hline, fun G F H σ ρ Q R S hT k =>
  ho.snd G F H σ ρ _ _ S hT fun v d F1 H1 ρ1 u1 S1 r1 q1 => by
    cases r1 with
    | str a =>
      refine ⟨⟨a, rfl⟩, he.snd G F1 H1 σ ρ1 _ _ S1 q1 fun w dw F2 H2 ρ2 u2 S2 r2 q2 => ?_⟩
      cases r2 with
      | str b =>
        obtain ⟨h1, h2, q⟩ := q2
        refine ⟨a, b, rfl, rfl, h1, h2, fun p hp => ?_⟩
        obtain ⟨u3, S3, r3⟩ := S2.res (.new hp (.lst upd_same (reps_strs _)))
        exact k _ _ _ _ ρ2 ((u1.trans u2).trans u3) S3 r3 q
      | _ => exact q2.elim
    | _ => exact q1.elim⟩
end
end Pl
namespace Pl
open PySem PySem.Spec PyProof.Rows L2
def Sx (l : List Nat) : Str := ⟨l.toArray⟩
theorem Sx_tl (l : List Nat) : (Sx l).cps.toList = l := rfl
theorem sx_ext {s t : Str} (h : s.cps.toList = t.cps.toList) : s = t := TL.ext_tl h
theorem sx_of {s : Str} {l : List Nat} (h : s.cps.toList = l) : s = Sx l := sx_ext (by rw [h, Sx_tl])
theorem Sx_len (l : List Nat) : (Sx l).length = l.length := by
  show (Sx l).cps.size = l.length
  rw [← Array.length_toList, Sx_tl]
theorem Sx_app (a b : List Nat) : Sx a ++ Sx b = Sx (a ++ b) := sx_of (by show TL.tl (Sx a ++ Sx b) = _; rw [TL.tl_append]; rfl)
theorem eqv_sx (a b : List Nat) : (D.str (Sx a)).eqv (.str (Sx b)) = decide (a = b) := by
  show PyData.eqv (.str (Sx a)) (.str (Sx b)) = _
  rw [PyData.eqv]
  by_cases h : a = b
  · subst h; rw [decide_eq_true rfl]; exact beq_self_eq_true _
  · rw [decide_eq_false h]
    exact beq_eq_false_iff_ne.mpr fun z => h (by have := congrArg (fun s : Str => s.cps.toList) z; exact this)
theorem sh_sx {l : List Nat} (h : ∀ c ∈ l, c < 128) : (D.str (Sx l)).sh := by
  show SeqAt.shaped (.str (Sx l)) = true
  unfold SeqAt.shaped
  have e : (PyData.str (Sx l)).canLay0 = true := by
    show PyData.strOk (Sx l) = true
    unfold PyData.strOk
    rw [Array.all_eq_true]
    intro i hi
    have : (Sx l).cps[i] ∈ l := by
      have := Array.getElem_mem (xs := (Sx l).cps) hi
      simpa [Sx] using this
    exact decide_eq_true (by have := h _ this; omega)
  rw [e]; rfl
theorem cut_to (l : List Nat) (k : Nat) : cutS (Sx l) none (some ((k : Nat) : Int)) = Sx (l.take k) := by
  unfold cutS Sx
  rw [HT.sIx_none, HT.sIx_nat]
  apply sx_ext
  show ((⟨((l.drop 0).take (min k (Sx l).length - 0)).toArray⟩ : Str)).cps.toList = l.take k
  rw [Sx_len, List.drop_zero, Nat.sub_zero]
  show l.take (min k l.length) = _
  by_cases h : k ≤ l.length
  · rw [Nat.min_eq_left h]
  · rw [Nat.min_eq_right (by omega), List.take_length, List.take_of_length_le (by omega)]
theorem cut_from (l : List Nat) (k : Nat) : cutS (Sx l) (some ((k : Nat) : Int)) none = Sx (l.drop k) := by
  unfold cutS Sx
  rw [HT.sIx_none, HT.sIx_nat]
  apply sx_ext
  show ((⟨((l.drop (min k (Sx l).length)).take ((Sx l).length - min k (Sx l).length)).toArray⟩ : Str)).cps.toList = l.drop k
  rw [Sx_len]
  show (l.drop (min k l.length)).take (l.length - min k l.length) = _
  by_cases h : k ≤ l.length
  · rw [Nat.min_eq_left h, List.take_of_length_le (by rw [List.length_drop]; omega)]
  · rw [Nat.min_eq_right (by omega), List.drop_length, List.drop_of_length_le (by omega), List.take_nil]
open PySem.NumText (digitsVal AllDigits)
open TL (numL)
def isDig (c : Nat) : Bool := decide (48 ≤ c) && decide (c ≤ 57)
theorem isDig_iff {c : Nat} : isDig c = true ↔ 48 ≤ c ∧ c ≤ 57 := by unfold isDig; rw [Bool.and_eq_true, decide_eq_true_iff, decide_eq_true_iff]
theorem digs_all {l : List Nat} : l.all isDig = true ↔ AllDigits l := by
  rw [List.all_eq_true]
  exact ⟨fun h c hc => isDig_iff.mp (h c hc), fun h c hc => isDig_iff.mpr (h c hc)⟩
def figB (l : List Nat) : Bool := decide (l ≠ []) && (l.all isDig && (decide (l = [48]) || decide (l.headD 0 ≠ 48)))
theorem headD_app {a b : List Nat} (h : a ≠ []) : (a ++ b).headD 0 = a.headD 0 := by
  cases a with
  | nil => exact absurd rfl h
  | cons x r => rfl
theorem numL_head {n : Nat} (h : 0 < n) : (numL n).headD 0 ≠ 48 := by
  induction n using Nat.strongRecOn with
  | _ n ih =>
    by_cases h1 : n < 10
    · rw [TL.numL_lt h1]
      show 48 + n ≠ 48
      omega
    · rw [TL.numL_step (by omega), headD_app (TL.numL_ne _)]
      exact ih (n / 10) (by omega) (by omega)
theorem num_fig (n : Nat) : figB (numL n) = true := by
  unfold figB
  rw [decide_eq_true (TL.numL_ne n), digs_all.mpr (TL.numL_digits n), Bool.true_and, Bool.true_and]
  by_cases h : 0 < n
  · rw [decide_eq_true (numL_head h), Bool.or_true]
  · have : n = 0 := by omega
    subst this
    rw [TL.numL_lt (by decide)]; rfl
theorem dv_snoc (l : List Nat) (c : Nat) : digitsVal (l ++ [c]) = digitsVal l * 10 + (c - 48) := by
  show (l ++ [c]).foldl _ 0 = _
  rw [List.foldl_append]; rfl
theorem num_back : ∀ (k : Nat) (l : List Nat), l.length = k + 1 → AllDigits l → l.headD 0 ≠ 48 → numL (digitsVal l) = l ∧ 0 < digitsVal l
  | 0, [c], _, hd, hh => by
    have := hd c (by simp)
    have hh : c ≠ 48 := hh
    have e : digitsVal [c] = c - 48 := by show 0 * 10 + (c - 48) = _; omega
    rw [e, TL.numL_lt (by omega)]
    exact ⟨by rw [show 48 + (c - 48) = c by omega], by omega⟩
  | k + 1, l, hl, hd, hh => by
    obtain ⟨i, c, rfl⟩ : ∃ i c, l = i ++ [c] := ⟨l.dropLast, l.getLast (by intro e; rw [e] at hl; simp at hl), (List.dropLast_concat_getLast _).symm⟩
    have hi : i.length = k + 1 := by rw [List.length_append] at hl; simpa using hl
    have hne : i ≠ [] := by intro e; rw [e] at hi; simp at hi
    rw [headD_app hne] at hh
    have hc := hd c (by simp)
    obtain ⟨e1, e2⟩ := num_back k i hi (fun x hx => hd x (by simp [hx])) hh
    rw [dv_snoc]
    have e3 : (digitsVal i * 10 + (c - 48)) / 10 = digitsVal i := by omega
    have e4 : (digitsVal i * 10 + (c - 48)) % 10 = c - 48 := by omega
    rw [TL.numL_step (by omega), e3, e4, e1]
    exact ⟨by rw [show 48 + (c - 48) = c by omega], by omega⟩
theorem fig_num {l : List Nat} (h : figB l = true) : numL (digitsVal l) = l := by
  unfold figB at h
  simp only [Bool.and_eq_true, decide_eq_true_iff, Bool.or_eq_true] at h
  obtain ⟨h1, h2, h3⟩ := h
  rcases h3 with h3 | h3
  · subst h3
    show numL 0 = [48]
    rw [TL.numL_lt (by decide)]
  · obtain ⟨c, r, rfl⟩ : ∃ c r, l = c :: r := by cases l with
      | nil => exact absurd rfl h1
      | cons c r => exact ⟨c, r, rfl⟩
    exact (num_back r.length _ rfl (digs_all.mp h2) h3).1
theorem fig_same {l : List Nat} (h1 : l ≠ []) (h2 : AllDigits l) : decide (numL (digitsVal l) = l) = (decide (l = [48]) || decide (l.headD 0 ≠ 48)) := by
  have e : figB l = (decide (l = [48]) || decide (l.headD 0 ≠ 48)) := by unfold figB; rw [decide_eq_true h1, digs_all.mpr h2]; rfl
  rw [← e]
  cases q : figB l with
  | true => exact decide_eq_true (fig_num q)
  | false =>
    refine decide_eq_false fun z => ?_
    rw [← z, num_fig] at q
    cases q
theorem fig_digs {l : List Nat} (h : figB l = true) : AllDigits l ∧ l ≠ [] := by
  unfold figB at h
  simp only [Bool.and_eq_true, decide_eq_true_iff] at h
  exact ⟨digs_all.mp h.2.1, h.1⟩
theorem int_figs {l : List Nat} (h : AllDigits l) (hne : l ≠ []) (hl : l.length ≤ 600) : PySem.intText? (Sx l) = some ((digitsVal l : Nat) : Int) :=
  PySem.intText_digits h hne (by rw [Sx_len]; omega)
theorem int_negs {l : List Nat} (h : AllDigits l) (hne : l ≠ []) (hl : l.length ≤ 600) : PySem.intText? (Sx (45 :: l)) = some (-((digitsVal l : Nat) : Int)) :=
  PySem.intText_neg rfl h hne (by rw [Sx_len]; show l.length + 1 ≤ 4300; omega)
theorem str_num (n : Nat) : ((toString ((n : Nat) : Int) : String) : Str) = Sx (numL n) := sx_of (TL.tl_num n)
def numT (i : Int) : List Nat := if i < 0 then 45 :: numL (-i).toNat else numL i.toNat
def numB : List Nat → Bool
  | 45 :: r => figB r && decide (r ≠ [48])
  | l => figB l
def valN : List Nat → Int
  | 45 :: r => -((digitsVal r : Nat) : Int)
  | l => ((digitsVal l : Nat) : Int)
theorem numL_no45 (n : Nat) : ∀ r, numL n ≠ 45 :: r := fun r e => by
  have := TL.numL_digits n 45 (by rw [e]; simp)
  omega
theorem numB_num (n : Nat) : numB (numL n) = true := by
  have h := num_fig n
  revert h
  have h2 := numL_no45 n
  revert h2
  cases numL n with
  | nil => intro _ h; exact h
  | cons c r =>
    intro h2 h
    unfold numB
    split
    · rename_i r' e; exact absurd e (h2 r')
    · exact h
theorem valN_num (n : Nat) : valN (numL n) = (n : Int) := by
  have h := TL.numL_val n
  revert h
  have h2 := numL_no45 n
  revert h2
  cases numL n with
  | nil => intro _ h; show ((digitsVal [] : Nat) : Int) = _; rw [h]
  | cons c r =>
    intro h2 h
    unfold valN
    split
    · rename_i r' e; exact absurd e (h2 r')
    · rw [h]
theorem numT_ok (i : Int) : numB (numT i) = true ∧ valN (numT i) = i := by
  unfold numT
  by_cases h : i < 0
  · rw [if_pos h]
    constructor
    · show (figB (numL (-i).toNat) && decide (numL (-i).toNat ≠ [48])) = true
      rw [num_fig, Bool.true_and]
      refine decide_eq_true fun e => ?_
      have := TL.numL_val (-i).toNat
      rw [e] at this
      have : (0 : Nat) = (-i).toNat := this
      omega
    · show -((digitsVal (numL (-i).toNat) : Nat) : Int) = i
      rw [TL.numL_val]; omega
  · rw [if_neg h]
    exact ⟨numB_num _, by rw [valN_num]; omega⟩
def winB : List Nat → Bool
  | c :: r => (decide (c = 99) || decide (c = 102)) && figB r
  | [] => false
def valW : List Nat → Wd
  | c :: r => (decide (c = 99), ((digitsVal r : Nat) : Int))
  | [] => (true, 0)
def winT (w : Wd) : List Nat := (if w.1 = true then 99 else 102) :: numL w.2.toNat
theorem winT_ok {w : Wd} (h : 0 ≤ w.2) : winB (winT w) = true ∧ valW (winT w) = w := by
  obtain ⟨c, s⟩ := w
  have h : 0 ≤ s := h
  constructor
  · show ((decide ((if c = true then 99 else 102) = 99) || decide ((if c = true then 99 else 102) = 102)) && figB (numL s.toNat)) = true
    rw [num_fig]
    cases c <;> rfl
  · show (decide ((if c = true then 99 else 102) = 99), ((digitsVal (numL s.toNat) : Nat) : Int)) = (c, s)
    rw [TL.numL_val]
    have : ((s.toNat : Nat) : Int) = s := by omega
    rw [this]
    cases c <;> rfl
def wds : List Nat → List (List Nat)
  | [] => [[]]
  | c :: r => if c = 32 then [] :: wds r else match wds r with
    | w :: ws => (c :: w) :: ws
    | [] => [[c]]
theorem wds_ne : ∀ l, wds l ≠ []
  | [] => by simp [wds]
  | c :: r => by
    unfold wds
    split
    · simp
    · split <;> simp
theorem wds_sp (r : List Nat) : wds (32 :: r) = [] :: wds r := by show (if (32 : Nat) = 32 then _ else _) = _; rw [if_pos rfl]
theorem wds_cons {c : Nat} (h : c ≠ 32) {r w : List Nat} {ws : List (List Nat)} (e : wds r = w :: ws) : wds (c :: r) = (c :: w) :: ws := by
  show (if c = 32 then _ else _) = _
  rw [if_neg h, e]
theorem wds_some (l : List Nat) : ∃ w ws, wds l = w :: ws := by
  cases e : wds l with
  | nil => exact absurd e (wds_ne l)
  | cons w ws => exact ⟨w, ws, rfl⟩
theorem pre32 (c : Nat) (r : List Nat) : TL.pre [32] (c :: r) = decide (c = 32) := by
  show ([c] == [32]) = _
  by_cases h : c = 32
  · subst h; rfl
  · rw [decide_eq_false h]
    exact beq_eq_false_iff_ne.mpr fun e => h (List.cons.inj e).1
theorem spl_wds : ∀ (l acc : List Nat) {w : List Nat} {ws : List (List Nat)}, wds l = w :: ws → TL.spl [32] 0 acc l = (acc ++ w) :: ws
  | [], acc, w, ws, e => by
    cases e
    rw [TL.spl_nil, List.append_nil]
  | c :: r, acc, w, ws, e => by
    by_cases h : c = 32
    · subst h
      rw [wds_sp] at e
      cases e
      rw [TL.spl_hit (by rw [pre32]; rfl), List.append_nil]
      obtain ⟨w2, ws2, e2⟩ := wds_some r
      show acc :: TL.spl [32] 0 [] r = acc :: wds r
      rw [spl_wds r [] e2, e2]; rfl
    · obtain ⟨w2, ws2, e2⟩ := wds_some r
      rw [wds_cons h e2] at e
      cases e
      rw [TL.spl_miss (by rw [pre32]; exact decide_eq_false h), spl_wds r (acc ++ [c]) e2, List.append_assoc]; rfl
theorem split_sx (l : List Nat) : Txt.split (Sx l) " " = (wds l).map Sx := by
  refine TL.map_tl_inj ?_
  have e1 : TL.tl (" " : Str) = [32] := by decide +kernel
  rw [TL.split_spl _ _ (by rw [e1]; simp) (TL.kind_ok (by decide +kernel)), e1, List.map_map]
  obtain ⟨w, ws, e⟩ := wds_some l
  show TL.spl [32] 0 [] l = _
  rw [spl_wds l [] e, e]
  show ([] ++ w) :: ws = (w :: ws).map (fun x => TL.tl (Sx x))
  have : (fun x : List Nat => TL.tl (Sx x)) = id := rfl
  rw [this, List.map_id]; rfl
theorem wds_join {ps : List (List Nat)} (hne : ps ≠ []) (hf : ∀ p ∈ ps, 32 ∉ p) : wds (TL.joinL [32] ps) = ps := by
  have h := TL.spl_join (S := []) hne hf
  obtain ⟨w, ws, e⟩ := wds_some (TL.joinL [32] ps)
  rw [spl_wds _ [] e] at h
  rw [e]; exact h
theorem wds_mem : ∀ {l w : List Nat}, w ∈ wds l → (∀ c ∈ w, c ∈ l) ∧ w.length ≤ l.length
  | [], w, h => by
    have h : w ∈ [[]] := h
    rw [List.mem_singleton.mp h]
    exact ⟨fun c hc => hc, Nat.le_refl _⟩
  | c :: r, w, h => by
    by_cases hc : c = 32
    · subst hc
      rw [wds_sp] at h
      rcases List.mem_cons.mp h with e | h
      · rw [e]; exact ⟨fun c hc => (by cases hc), Nat.zero_le _⟩
      · obtain ⟨h1, h2⟩ := wds_mem h
        exact ⟨fun x hx => by simp [h1 x hx], by show _ ≤ r.length + 1; omega⟩
    · obtain ⟨w2, ws2, e2⟩ := wds_some r
      rw [wds_cons hc e2] at h
      rcases List.mem_cons.mp h with e | h
      · obtain ⟨h1, h2⟩ := wds_mem (l := r) (w := w2) (by rw [e2]; simp)
        rw [e]
        exact ⟨fun x hx => by
          rcases List.mem_cons.mp hx with e | hx
          · simp [e]
          · simp [h1 x hx], by show w2.length + 1 ≤ r.length + 1; omega⟩
      · obtain ⟨h1, h2⟩ := wds_mem (l := r) (w := w) (by rw [e2]; simp [h])
        exact ⟨fun x hx => by simp [h1 x hx], by show _ ≤ r.length + 1; omega⟩
theorem wds_len : ∀ l : List Nat, (wds l).length ≤ l.length + 1
  | [] => Nat.le_refl _
  | c :: r => by
    have ih := wds_len r
    by_cases hc : c = 32
    · subst hc
      rw [wds_sp]
      show (wds r).length + 1 ≤ r.length + 1 + 1
      omega
    · obtain ⟨w2, ws2, e2⟩ := wds_some r
      rw [wds_cons hc e2]
      rw [e2] at ih
      show ws2.length + 1 ≤ r.length + 1 + 1
      have ih : ws2.length + 1 ≤ r.length + 1 := ih
      omega
def Mb (k : Nat) (l : List Nat) : Prop := ∀ w ∈ wds l, w.length ≤ k
theorem Mb.mono {k j : Nat} {l : List Nat} (h : Mb k l) (hj : k ≤ j) : Mb j l := fun w hw => Nat.le_trans (h w hw) hj
theorem wds_left : ∀ (a b : List Nat) {w : List Nat} {ws : List (List Nat)}, wds (a ++ b) = w :: ws → ∃ v vs, wds a = v :: vs ∧ v.length ≤ w.length ∧ ∀ x ∈ vs, ∃ y ∈ ws, x.length ≤ y.length
  | [], b, w, ws, _ => ⟨[], [], rfl, Nat.zero_le _, fun _ h => nomatch h⟩
  | c :: r, b, w, ws, e => by
    obtain ⟨w2, ws2, e2⟩ := wds_some (r ++ b)
    obtain ⟨v, vs, e3, h1, h2⟩ := wds_left r b e2
    by_cases hc : c = 32
    · subst hc
      rw [List.cons_append, wds_sp, e2] at e
      cases e
      refine ⟨[], wds r, wds_sp r, Nat.le_refl _, fun x hx => ?_⟩
      rw [e3] at hx
      rcases List.mem_cons.mp hx with e | hx
      · exact ⟨w2, by simp, by rw [e]; exact h1⟩
      · obtain ⟨y, hy, h⟩ := h2 x hx
        exact ⟨y, by simp [hy], h⟩
    · rw [List.cons_append, wds_cons hc e2] at e
      cases e
      exact ⟨c :: v, vs, wds_cons hc e3, by show v.length + 1 ≤ w2.length + 1; omega, h2⟩
theorem Mb.left {k : Nat} {a b : List Nat} (h : Mb k (a ++ b)) : Mb k a := fun x hx => by
  obtain ⟨w, ws, e⟩ := wds_some (a ++ b)
  obtain ⟨v, vs, e2, h1, h2⟩ := wds_left a b e
  rw [e2] at hx
  rcases List.mem_cons.mp hx with z | hx
  · rw [z]; exact Nat.le_trans h1 (h w (by rw [e]; simp))
  · obtain ⟨y, hy, q⟩ := h2 x hx
    exact Nat.le_trans q (h y (by rw [e]; simp [hy]))
theorem Mb.right {k : Nat} : ∀ {a b : List Nat}, Mb k (a ++ b) → Mb k b
  | [], _, h => h
  | c :: r, b, h => by
    refine Mb.right (a := r) fun x hx => ?_
    obtain ⟨w2, ws2, e2⟩ := wds_some (r ++ b)
    by_cases hc : c = 32
    · subst hc
      exact h x (by rw [List.cons_append, wds_sp]; simp [hx])
    · have h' := h
      rw [e2] at hx
      rcases List.mem_cons.mp hx with z | hx
      · have := h (c :: w2) (by rw [List.cons_append, wds_cons hc e2]; simp)
        rw [z]
        have : w2.length + 1 ≤ k := this
        omega
      · exact h x (by rw [List.cons_append, wds_cons hc e2]; simp [hx])
theorem Mb.app {k j : Nat} : ∀ {a b : List Nat}, Mb k a → Mb j b → Mb (k + j) (a ++ b)
  | [], b, _, hb => hb.mono (by omega)
  | c :: r, b, ha, hb => by
    have hr : Mb k r := Mb.right (a := [c]) (b := r) ha
    have ih := Mb.app hr hb
    by_cases hc : c = 32
    · subst hc
      intro x hx
      rw [List.cons_append, wds_sp] at hx
      rcases List.mem_cons.mp hx with e | hx
      · rw [e]; exact Nat.zero_le _
      · exact ih x hx
    · intro x hx
      obtain ⟨w2, ws2, e2⟩ := wds_some (r ++ b)
      rw [List.cons_append, wds_cons hc e2] at hx
      rcases List.mem_cons.mp hx with e | hx
      ·
        rw [e]
        show w2.length + 1 ≤ k + j
        obtain ⟨v, vs, e3⟩ := wds_some r
        have hv : v.length + 1 ≤ k := ha (c :: v) (by rw [wds_cons hc e3]; simp)
        have key : ∀ {r w2 v : List Nat} {ws2 vs : List (List Nat)}, wds (r ++ b) = w2 :: ws2 → wds r = v :: vs → w2.length ≤ v.length + j := by
          intro r
          induction r with
          | nil =>
            intro w2 v ws2 vs e2 e3
            have := hb w2 (by rw [show b = [] ++ b from rfl, e2]; simp)
            omega
          | cons c r ih =>
            intro w2 v ws2 vs e2 e3
            obtain ⟨w4, ws4, e4⟩ := wds_some (r ++ b)
            obtain ⟨v4, vs4, e5⟩ := wds_some r
            by_cases hc : c = 32
            · subst hc
              rw [List.cons_append, wds_sp] at e2
              cases e2
              exact Nat.zero_le _
            · rw [List.cons_append, wds_cons hc e4] at e2
              rw [wds_cons hc e5] at e3
              cases e2; cases e3
              have := ih e4 e5
              show w4.length + 1 ≤ v4.length + 1 + j
              omega
        have := key e2 e3
        omega
      · exact ih x (by rw [e2]; simp [hx])
def firstBad (f : List Nat → Bool) : Nat → List (List Nat) → Option Nat
  | _, [] => none
  | n, w :: ws => if f w = true then firstBad f (n + 1) ws else some n
theorem firstBad_all {f : List Nat → Bool} : ∀ {ws : List (List Nat)} (n : Nat), (∀ w ∈ ws, f w = true) → firstBad f n ws = none
  | [], _, _ => rfl
  | w :: ws, n, h => by
    show (if f w = true then _ else _) = _
    rw [if_pos (h w (by simp))]
    exact firstBad_all (n + 1) fun v hv => h v (by simp [hv])
theorem firstBad_none {f : List Nat → Bool} : ∀ {ws : List (List Nat)} {n : Nat}, firstBad f n ws = none → ∀ w ∈ ws, f w = true
  | [], _, _, w, h => nomatch h
  | v :: ws, n, e, w, h => by
    have e : (if f v = true then firstBad f (n + 1) ws else some n) = none := e
    by_cases q : f v = true
    · rw [if_pos q] at e
      rcases List.mem_cons.mp h with z | h
      · rw [z]; exact q
      · exact firstBad_none e w h
    · rw [if_neg q] at e; cases e
def dOf (l : List Nat) : D := match firstBad numB 0 (wds l) with
  | some i => .int i
  | none => tD ((wds l).map valN)
def wOf (l : List Nat) : D := if l = [45] then .lst [] else match firstBad winB 0 (wds l) with
  | some i => .int i
  | none => .lst (windsD ((wds l).map valW))
structure TxO (l : List Nat) : Prop where
  asc : ∀ c ∈ l, c < 128
  len : l.length ≤ 300
  wd : Mb 50 l
theorem TxO.word {l w : List Nat} (h : TxO l) (hw : w ∈ wds l) : (∀ c ∈ w, c < 128) ∧ w.length ≤ 50 := ⟨fun c hc => h.asc c ((wds_mem hw).1 c hc), h.wd w hw⟩
end Pl
namespace L2
open PySem PySem.Spec PyProof.Rows
theorem exk_ok {P : Program} {w : World} {H : Hp} {h : Heap} {a C dd : Addr} {oe : Obj} {vs : Array Value} (e : h.get? a = some oe) (z : Zc (.ref C) (some dd) oe) (d : oe.data = .fields vs) : ObjOk P w H h a (exk a C dd) :=
  ⟨⟨oe, vs, e, z.1, z.2, d⟩, ⟨oe, e⟩, fun _ _ ⟨o, v, q, r⟩ k => ⟨o, v, k o q, r⟩⟩
theorem exk_at {P : Program} {w : World} {H : Hp} {h : Heap} {a C dd : Addr} (hok : HOk P w H h) (e : H a = some (exk a C dd)) : ∃ (oe : Obj) (vs : Array Value), h.get? a = some oe ∧ oe.cls = .ref C ∧ oe.dict = some dd ∧ oe.data = .fields vs := by
  have x : ObjOk P w H h a (.ext fun h => ∃ (oe : Obj) (vs : Array Value), h.get? a = some oe ∧ oe.cls = .ref C ∧ oe.dict = some dd ∧ oe.data = .fields vs) := hok a _ e
  exact x.1
section
variable {X : Cx} {pins : List (Addr × Obj)} {σ : St} {H : Hp} {s : Shared}
theorem Inv.track (I : Inv X pins σ H s) {a C dd : Addr} {oe : Obj} {vs : Array Value} (na : H a = none) (n0 : X.s_0.heap.get? a = none) (e : s.heap.get? a = some oe) (z : Zc (.ref C) (some dd) oe) (d : oe.data = .fields vs) (np : ∀ p ∈ X.pn ++ pins, p.1 ≠ a) (nL : a ≠ X.env.locals) :
    Inv X pins σ (upd H a (exk a C dd)) s := by
  have old : ∀ {b o}, X.s_0.heap.get? b = some o → b ≠ a := fun {b o} q x => by rw [x, n0] at q; cases q
  have far : ∀ {b : Addr} {o : HO}, H b = some o → b ≠ a := fun {b o} q => ne_of_none q na
  refine ⟨I.ok, I.os, I.bare, ⟨I.base.keep, I.base.slot, fun b o q n x => by rw [upd_ne (old q)]; exact I.base.free b o q n x, I.base.there, fun b xs q => ?_, fun b o u q => ?_, fun b ps q => ?_⟩, I.loc, I.cell, by rw [upd_ne (Ne.symm nL)]; exact I.free, fun x c q => ?_, fun p hp => ?_, fun b u q => ?_, I.len⟩
  · have q := I.base.tups b xs q
    rw [upd_ne (far q)]; exact q
  · have q := I.base.frzs b o u q
    rw [upd_ne (far q)]; exact q
  · obtain ⟨m, q⟩ := I.base.tbls b ps q
    exact ⟨m, by rw [upd_ne (far q)]; exact q⟩
  · obtain ⟨v, o, ho, hv⟩ := I.cell x c q
    have ne : c ≠ a := fun z => by
      rw [z, e] at ho
      cases ho
      have hv' : oe.data = .cell v := hv
      rw [d] at hv'
      cases hv'
    rw [upd_ne ne]; exact I.freeC x c q
  · obtain ⟨h1, h2, h3⟩ := I.pin p hp
    exact ⟨h1, by rw [upd_ne (np p hp)]; exact h2, h3⟩
  · by_cases hb : b = a
    · subst hb
      rw [upd_same] at q
      cases q
      exact exk_ok e z d
    · rw [upd_ne hb] at q
      exact (I.hok b u q).stay (fun _ _ _ y => y) (fun c y => by rw [upd_ne (far y)]; exact y) fun c xs y => by rw [upd_ne (far y)]; exact y
end
def Hits (X : Cx) (tt : Expr) (cls : Value) : Prop := ∀ (a : Addr) (oe : Obj) (pn : List (Addr × Obj)) (σ : St) (H : Hp) (s : Shared) (Q : Value → Shared → Prop) (E : Value → Shared → Prop), Inv (X.suite a ((a, oe) :: pn)) [] σ H s → PySem.W.Looks (model X.prog X.w) s.heap (typeOf (.ref a)) cls →
  (∀ c h', (∀ b o, s.heap.get? b = some o → h'.get? b = some o) → PySem.W.Looks (model X.prog X.w) h' (excMatches (.ref a) c) true → Q c { s with heap := h' }) → wpAny (model X.prog X.w) (X.A.mark (some (.ref a))) (eval tt X.env) Q E s
def Named (X : Cx) (x : Str) (C : Addr) : Prop := Gl X x ∧ (x == ("__debug__" : Str)) = false ∧ X.mg x = some (.ref C)
section
variable {X : Cx} {cls : Value} {x1 x2 x3 x4 : Str} {C1 C2 C3 C4 : Addr} {p1 p2 p3 p4 tp : Pos} {kk : Nat}
theorem hits1 (n : Named X x1 C1) (h : PySem.W.exmOne X.K cls (.ref C1) = some true) : Hits X (.Name x1 p1) cls := fun a oe pn σ H s Q E I LT k =>
  ld_glob (X := X.suite a ((a, oe) :: pn)) I n.1 n.2.2 (k (.ref C1) s.heap (fun _ _ q => q) (PySem.W.exm_one I.kIn LT h)) n.2.1
end
theorem flying_kept {B h h' : Heap} {l : List Env} {a : Addr} {Z : Obj → Prop} (f : PySem.HandSPX.FlyingZ B l a Z h) (k : ∀ b o, h.get? b = some o → h'.get? b = some o) : PySem.HandSPX.FlyingZ B l a Z h' := by
  obtain ⟨f1, f2, f3, oe, vs, T, oT, ts, he, hz, hd, h1, hn, hne, hT, hdT, h3⟩ := f
  exact ⟨fun b o q => k b o (f1 b o q), f2, f3.of_keeps fun b o q _ => ⟨o, k b o q, rfl⟩, oe, vs, T, oT, ts, k _ _ he, hz, hd, h1, hn, hne, k _ _ hT, hdT, h3⟩
def wKeep (i j : Nat) (ok : Addr → Prop) (D : Ends) : WX := fun cls d σ H => ∃ C dd, cls = .ref C ∧ d = some dd ∧ ok C ∧ ∀ a, H a = none → D.nx (((σ.set i (some (.ref a))).set j (some (.ref a))).set i none) (upd H a (exk a C dd))
section
variable {X : Cx} {n y : Str} {i j : Nat} {tt : Expr} {body : List Stmt} {p1 p2 p3 pos pos' : Pos} {tb : WX → TS} {ok : Addr → Prop}
theorem ps_try_keep (hs : X.stack = X.env :: X.outer) (hf : X.env.frame = some X.env.locals) (hex : X.ex = []) (hN : X.N.Nodup) (hi : X.N[i]? = some n) (hj : X.N[j]? = some y) (hln : X.env.scope.names.lookup n = some .local) (hly : X.env.scope.names.lookup y = some .local)
    (hb : ∀ (W : WX) (pn : List (Addr × Obj)) (xe : Value → Shared → Prop), Takes (X.tr pn xe) W → PassesOwn (model X.prog X.w) X.A X.env xe → PSs (X.tr pn xe) body (tb W)) (hh : ∀ C, ok C → Hits X tt (.ref C))
    (sw : swapsWith (.Name n p2) (some (.Name y p1)) p3.line X.env = pure false := by rfl) (hd : (n == ("__debug__" : Str)) = false := by decide) (hcd : (n == ("__classdict__" : Str)) = false := by decide) :
    PS X (.Try body [.ExceptHandler (some tt) (some n) [.Assign [.Name y p1] (.Name n p2) p3] pos'] [] [] pos) (fun D σ H => tb (wKeep i j ok D) D σ H) := by
  refine ⟨fun pins s σ H D I h => ?_⟩
  have I0 := I
  have xok := I.ok
  have hfr : X.A.frames = some (X.env :: X.outer) := by rw [xok.frames, hs]
  refine wpAny_Try_except (wpAny_mono ((hb (wKeep i j ok D) (X.pn ++ pins) (fun e s₁ => wpAny (model X.prog X.w) X.A (noteFrame e X.env) (fun _ s₂ => wpAny (model X.prog X.w) X.A (setFlight e none) (fun _ s₃ =>
    wpAny (model X.prog X.w) X.A (handleBy e X.env [.ExceptHandler (some tt) (some n) [.Assign [.Name y p1] (.Name n p2) p3] pos']) (SP X pins D) X.xe s₃) X.xe s₂) X.xe s₁) (fun u s' xx => ?_) PassesOwn.looking).run [] s σ H D (I.toTry _) h) (fun f s1 hsp => ?_) (fun e s1 he => he))
  · obtain ⟨a, B, sI, pins', σ', H', cls, d, rfl, J', nb, up, sky, na, os, ag, C, dd, rfl, rfl, hC, go⟩ := xx
    have J : Inv X pins σ' H' sI := J'.ofTry xok
    have sky' : Sky B (X.env :: X.outer) a (Zc (.ref C) (some dd)) X.env.locals s'.heap := by rw [← hs]; exact sky
    have Bn : B.get? a = none := by
      rcases sky' with ⟨_, q, _⟩ | f | f
      · exact q
      · exact f.2.1
      · exact f.2.1
    show wpAny (model X.prog X.w) X.A (noteFrame (.ref a) X.env) _ _ _
    refine Sky.land Zc.steady hfr hf sky' fun h3 fl3 up3 => ?_
    have J3 : Inv X pins σ' H' { s' with heap := h3 } := J.landed nb fl3.1 (up.trans up3) os ag
    obtain ⟨oe3, vs3, he3, hz3, hd3⟩ := fl3.there
    have nfr : a ∉ frs (X.env :: X.outer) := fun hm => by
      obtain ⟨_, o', e', hnf⟩ := fl3.2.2.1.mem hm
      rw [he3] at e'; cases e'
      exact hnf _ hd3
    have nL : a ≠ X.env.locals := fun z => nfr (List.mem_filterMap.mpr ⟨X.env, List.mem_cons_self, by rw [hf, z]⟩)
    have nF : a ∉ X.fs := fun hm => by
      obtain ⟨e, he, q⟩ := List.mem_filterMap.mp hm
      exact nfr (List.mem_filterMap.mpr ⟨e, List.mem_cons_of_mem _ he, q⟩)
    have nI : sI.heap.get? a = none := by
      cases e : sI.heap.get? a with
      | none => rfl
      | some o =>
        have z := nb a o e (by rw [hs]; exact nfr)
        rw [Bn] at z; cases z
    have n0 : X.s_0.heap.get? a = none := by
      cases e : X.s_0.heap.get? a with
      | none => rfl
      | some o =>
        obtain ⟨o', z⟩ := J.base.there a o e (by rw [hex]; exact fun z => nomatch z)
        rw [nI] at z; cases z
    have np : ∀ p ∈ X.pn ++ pins, p.1 ≠ a := fun p hp z => by
      have q := (J.pin p hp).1
      rw [z, nI] at q; cases q
    have S3 := J3.suite he3 hd3 na nL nF
    refine wpAny_handleBy_cons (codeAny_handlers_test ?_) (by intro q; cases q)
    have LT : PySem.W.Looks (model X.prog X.w) h3 (typeOf (.ref a)) (.ref C) := fun A Q E s k q => wpAny_typeOf_ref (k _ _ he3) (by rw [hz3.1]; exact q)
    refine hh C hC a oe3 (X.pn ++ pins) σ' H' { s' with heap := h3 } _ _ S3 LT fun c h5 k5 LM => LM.here ?_
    have fl5 : PySem.HandSPX.FlyingZ B (X.env :: X.outer) a (Zc (.ref C) (some dd)) h5 := flying_kept fl3 k5
    have up5 : sI.heap.UpToSlots h5 := (up.trans up3).trans (Heap.UpToSlots.of_keeps k5)
    refine codeAny_handlers_suite_as ?_
    refine PySem.HandSPX.lands_againZ fl5 fun h4 fl4 up4 => ?_
    have J4 : Inv X pins σ' H' { s' with heap := h4 } := J.landed nb fl4.1 (up5.trans up4) os ag
    obtain ⟨oe4, vs4, he4, hz4, hd4⟩ := fl4.there
    have T4 := J4.track na n0 he4 hz4 hd4 np nL
    have ok4 : (X.suite a (X.pn ++ pins)).Ok := xok.suite _ _
    have S4 : Inv (X.suite a (X.pn ++ pins)) [] σ' (upd H' a (exk a C dd)) { s' with heap := h4 } := ⟨ok4, T4.os, T4.bare, T4.base, T4.loc, T4.cell, T4.free, T4.freeC, fun p hp => T4.pin p (by rw [List.append_nil] at hp; exact hp), T4.hok, T4.len⟩
    refine store_ok (X := X.suite a (X.pn ++ pins)) (v := .ref a) S4 hN hi (.inl hln) rfl (fun s5 S5 => ?_) (.inr hln)
    have lenI : i < σ'.length := by
      rw [J.len]
      have q : X.N[i]? = some n := hi
      exact (List.getElem?_eq_some_iff.mp q).1
    have st : PSs (X.suite a (X.pn ++ pins)) [.Assign [.Name y p1] (.Name n p2) p3] (tAsg (tVar i) (gName j)) := pss_one (ps_set (X := X.suite a (X.pn ++ pins)) hN hj (.inl hly) (pe_var hi (.inl hln) hd hcd) sw (.inr hly))
    refine wpAny_mono (st.run [] s5 _ _ { nx := fun σ6 H6 => D.nx (σ6.set i none) H6, rt := fun _ _ => False } S5 ⟨.ref a, List.getElem?_set_self lenI, go a na⟩) (fun f s6 hsp => ?_) (fun _ _ z => False.elim z)
    cases f with
    | next =>
      obtain ⟨σ6, H6, S6, q6⟩ := hsp
      have U6 : Inv X pins σ6 H6 s6 := ⟨xok, S6.os, S6.bare, S6.base, S6.loc, S6.cell, S6.free, S6.freeC, fun p hp => S6.pin p (by rw [List.append_nil]; exact hp), S6.hok, S6.len⟩
      exact gone_ok U6 hN hi hln fun s7 J7 => ⟨_, _, J7, q6⟩
    | brk => obtain ⟨_, _, _, q6⟩ := hsp; exact q6.elim
    | cont => obtain ⟨_, _, _, q6⟩ := hsp; exact q6.elim
    | ret u => obtain ⟨_, _, _, _, _, q6⟩ := hsp; exact q6.elim
  · cases f with
    | next => obtain ⟨σ', H', J', q⟩ := hsp; exact wpAny_execs_nil ⟨σ', H', J'.ofTry xok, q⟩
    | brk => obtain ⟨σ', H', J', q⟩ := hsp; exact ⟨σ', H', J'.ofTry xok, q⟩
    | cont => obtain ⟨σ', H', J', q⟩ := hsp; exact ⟨σ', H', J'.ofTry xok, q⟩
    | ret u => obtain ⟨v, σ', H', J', r, q⟩ := hsp; exact ⟨v, σ', H', J'.ofTry xok, r, q⟩
end
structure AskX (K : PySem.W.Frag) (C : Addr) : Prop where
  ga : PySem.W.findIn K (.ref C) "__getattribute__" = some (some (.builtin "BaseException.__getattribute__"))
  gg : PySem.W.findIn K (.ref C) "__getattr__" = some none
  ca : PySem.W.findIn K (.ref C) "__class__" = some (some (.builtin "object.__class__"))
  hn : PySem.W.specialIn K (.builtin "object.__class__") "__get__" = some (some (.builtin "getset_descriptor.__get__"))
  ht : PySem.W.takesIn K (.builtin "object.__class__") = some true
section
variable {K : PySem.W.Frag} {C : Addr} {nw : String} {tl : List Value}
theorem OwnX.cd (T : OwnX K C nw tl) : ∃ cd, PySem.W.clsIn K C = some cd ∧ cd.mro = .ref C :: tl ∧ cd.hasDict = true := by
  obtain ⟨nm, q, N, bs, sn, sub, ab, col, dd, k0, k1, k2, k3, k5, hC⟩ := T.cls
  exact ⟨{ name := nm, bases := bs, mro := .ref C :: tl, ns := N, qualname := q, hasDict := true, slotNames := sn, subclasses := sub, abstract := ab, collection := col, hasDel := false }, by unfold PySem.W.clsIn; rw [hC] <;> rfl, rfl, rfl⟩
theorem OwnX.mro (T : OwnX K C nw tl) (b : Value) : PySem.W.mroIn K C b = some ((.ref C == b) || tl.contains b) := by
  obtain ⟨cd, h1, h2, _⟩ := T.cd
  unfold PySem.W.mroIn
  rw [h1, Option.bind_some, h2, if_neg (by simp), List.contains_cons]
  cases h : (Value.ref C == b) with
  | true => rw [beq_iff_eq.mp h]; simp
  | false =>
    have : (b == Value.ref C) = false := by
      cases q : (b == Value.ref C) with
      | false => rfl
      | true => rw [← beq_iff_eq.mp q] at h; simp at h
    rw [this]
end
def rIsX (K : PySem.W.Frag) : List V → Hp → VK → Prop := fun xs H Q => ∃ (a C dd : Addr) (fs : List (Str × V)) (nw : String) (tl : List Value) (c : V) (u : Value) (b : Bool), xs = [.ref a, c] ∧ H a = some (exk a C dd) ∧ H dd = some (.xd fs) ∧ OwnX K C nw tl ∧ tl.contains (.type "object") = true ∧ AskX K C ∧ ClsV c u ∧ PySem.W.kitOne K (.ref C) u = some b ∧ Q (.bl b) H
section
variable {X : Cx}
theorem exk_inst {pins : List (Addr × Obj)} {σ : St} {H : Hp} {s : Shared} {a C dd : Addr} {fs : List (Str × V)} (I : Inv X pins σ H s) (ea : H a = some (exk a C dd)) (ed : H dd = some (.xd fs)) :
    ∃ oe od, PySem.W.InstAt s.heap a oe C (some od) ∧ ∃ mA : Str → Option Value, (∀ name, PySem.W.lookIn name od = some (mA name)) ∧ ∀ f, RelO (fs.lookup f) (mA f) := by
  obtain ⟨oe, vs, ho, hc, hdict, hd⟩ := exk_at I.hok ea
  have hx : ObjOk X.prog X.w H s.heap dd (.xd fs) := I.hok dd _ ed
  obtain ⟨mA, hns, hr⟩ := hx
  obtain ⟨od, hod, hl⟩ := lookIn_ns hns
  exact ⟨oe, od, ⟨ho, hc, by unfold PySem.W.notCls; rw [hd] <;> rfl, by rw [hdict]; exact hod⟩, mA, hl, hr⟩
theorem exk_kit {K : PySem.W.Frag} {a C : Addr} {oe od : Obj} {nw : String} {tl : List Value} (T : OwnX K C nw tl) (hob : tl.contains (.type "object") = true) (A : AskX K C) : PySem.W.KitX K (.ref a) (.ref C) (fun h => PySem.W.InstAt h a oe C (some od)) := by
  obtain ⟨cd, h1, _, _⟩ := T.cd
  exact PySem.W.kitx_exc (by rw [h1]; rfl) A.ga A.gg T.exC A.ca A.hn A.ht (by rw [T.mro, hob, Bool.or_true])
theorem call_isX : CallR X (.builtin "isinstance") (rIsX X.K) := by
  intro pins s σ H xs us Q I r h
  obtain ⟨a, C, dd, fs, nw, tl, c, u, b, rfl, ea, ed, T, hob, A, k, e, q⟩ := h
  obtain ⟨u1, u2, rfl, r1, r2⟩ := vals2 r
  cases (show u1 = Value.ref a from r1)
  have e2 := k.eq r2
  subst e2
  obtain ⟨oe, od, J, _⟩ := exk_inst I ea ed
  exact PySem.W.kia_one (exk_kit T hob A) I.kIn J e (fun z => nomatch z) fun tk => ⟨.bl b, H, I.tok tk, rfl, q⟩
def tXfk (K : PySem.W.Frag) (f : Str) (te : TE) : TE := fun σ H Q => te σ H fun x H1 => ∃ (a C dd : Addr) (fs : List (Str × V)) (nw : String) (tl : List Value) (v : V), x = .ref a ∧ H1 a = some (exk a C dd) ∧ H1 dd = some (.xd fs) ∧ OwnX K C nw tl ∧ AskX K C ∧ PySem.W.findIn K (.ref C) f = some none ∧ fs.lookup f = some v ∧ Q v H1
theorem pe_xfk {e : Expr} {te : TE} {pos : Pos} {f : Str} (he : PE X e te) (hb : attributeBase e f X.env (eval e X.env) = eval e X.env := by rfl) : PE X (.Attribute e f pos) (tXfk X.K f te) := by
  refine ⟨fun pins s σ H Q I h => ?_⟩
  refine attr_of hb (thn (he.run pins s σ H _ I h) fun u s1 ⟨x, H1, I1, rx, a, C, dd, fs, nw, tl, v, ex, ea, ed, T, A, hno, l, q⟩ => ?_)
  subst ex
  cases (show u = Value.ref a from rx)
  obtain ⟨oe, od, J, mA, hl, hr⟩ := exk_inst I1 ea ed
  obtain ⟨u, hu, ru⟩ := RelO.some_of (v := v) (o := mA f) (by rw [← l]; exact hr f)
  obtain ⟨cd, h1, _, h3⟩ := T.cd
  exact PySem.HandSPX.exc_get I1.kIn J A.ga A.gg T.exC (PySem.W.findObj_own (by unfold PySem.W.hasDictIn; rw [h1]; exact h3) hno rfl (by rw [hl, hu])) (handed_of ru) ⟨v, H1, I1.tok _, ru, q⟩
end
end L2
namespace Pl
open PySem PySem.Spec PyProof.Rows L2
section
variable [TJ]
structure XD where
  c : Str
  y : D
abbrev unl : Str := "Unlike 0"
def XRep (K : PySem.W.Frag) (F : Hp) (cls : Value) (d : Option Addr) (x : XD) : Prop := ∃ C : Addr, cls = .ref C ∧
  ((x.c ≠ unl ∧ PySem.W.nsIn K mainGlobals x.c = some (some (.ref C)) ∧ ∃ (dd : Addr) (v : V), d = some dd ∧ F dd = some (.xd [(xfield x.c, v)]) ∧ Rep K F v x.y) ∨ (x.c = unl ∧ PySem.W.nsIn K mainGlobals "Unlike" = some (some (.ref C)) ∧ d = none))
theorem XRep.mono {K : PySem.W.Frag} {F F' : Hp} {cls : Value} {d : Option Addr} {x : XD} (e : Same F F') (h : XRep K F cls d x) : XRep K F' cls d x := by
  obtain ⟨C, h2, ⟨hc, h1, dd, v, h3, h4, h5⟩ | h3⟩ := h
  · exact ⟨C, h2, .inl ⟨hc, h1, dd, v, h3, e _ _ h4, h5.mono e⟩⟩
  · exact ⟨C, h2, .inr h3⟩
abbrev XP := XD → Ro → Prop
def XRel (K : PySem.W.Frag) (W : WX) (G F : Hp) (xx : XP) : Prop := ∀ F' H' σ' ρ' cls d x, Up G F F' → Sim K G F' H' σ' ρ' → XRep K F' cls d x → xx x ρ' → W cls d σ' H'
theorem XRel.mono {K : PySem.W.Frag} {W : WX} {G F F1 : Hp} {xx : XP} (h : XRel K W G F xx) (u : Up G F F1) : XRel K W G F1 xx := fun F' H' σ' ρ' cls d x v => h F' H' σ' ρ' cls d x (u.trans v)
theorem Sim.grow {K : PySem.W.Frag} {G F H F' H' : Hp} {σ : L2.St} {ρ : Ro} (S : Sim K G F H σ ρ) (u : Up G F F') (hF : Same F' H') (hH : Same H H') (fr : ∀ a o, H a = some o → Mut o → F a = none → F' a = none) (nw : ∀ b o, F' b = some o → F b = some o ∨ H b = none) : Sim K G F' H' σ ρ :=
  ⟨hF, S.hG.up hH nw, S.len, fun i d h => by
    obtain ⟨w, h1, h2⟩ := S.val i d h
    exact ⟨w, h1, h2.mono u.ex⟩, fun i a xs h => by
    obtain ⟨h1, h2, h3, vs, h4, h5⟩ := S.own i a xs h
    exact ⟨h1, fr a _ h4 trivial h2, h3, vs, hH _ _ h4, h5.mono u.ex⟩, S.ne, S.bx.heap u.ex fun p m => let ⟨f, g, _⟩ := S.bx.free m; let ⟨o, e, mo⟩ := S.bx.mut m; ⟨fr p o e mo f, g, (hH _ _ e).trans e.symm⟩⟩
abbrev TXe := Ro → XP → Prop
def SndX (K : PySem.W.Frag) (W : WX) (t : TE) (T : TXe) : Prop := ∀ (G F H : Hp) (σ : L2.St) (ρ : Ro) (xx : XP) (R : VK), Sim K G F H σ ρ → T ρ xx → XRel K W G F xx → t σ H R
structure PXE (X : Cx) (W : WX) (e : Expr) (t : TE) (T : TXe) : Prop where
  pe : PE X e t
  snd : SndX X.K W t T
abbrev FX := List D → (XD → Prop) → Prop
def spX (K : PySem.W.Frag) (n : Nat) (g : FX) : Sp := fun vs H _ E => ∃ (F : Hp) (ds : List D) (C : XD → Prop), vs.length = n ∧ Same F H ∧ Reps K F vs ds ∧ g ds C ∧
  ∀ x cls d F' H', Up H F F' → Same F' H' → Same H H' → XRep K F' cls d x → C x → E cls d H'
section
variable {X : Cx} {W : WX} {k : Nat} {f : Addr} {fd : FuncData} {ps : List Str} {x : Str} {p pos : Pos} {e a b c : Expr} {es : List Expr} {t ta' : TA} {T : TAp} {n : Nat} {te ta tb : TE} {Te Ta Tb U : TEp} {Xe Xa Xb : TXe}
def xCall (n : Nat) (g : FX) (T : TAp) : TXe := fun ρ xx => T ρ fun ds ρ1 => ds.length = n ∧ g ds fun x => xx x ρ1
theorem pxe_call {g : FX} (Fn : FnOk X.prog X.w X.K X.mg X.base (L2.CX X.prog X.w) k f fd ps (spX X.K n g)) (tk : Takes X W) (hr : Room k X.A) (hg : Gl X x) (hm : X.mg x = some (.ref f)) (hk : PySem.W.keepIn X.K (.ref f) = true) (hb : Binds X.K fd ps []) (ha : PPA X (e :: es) t T)
    (hdb : (x == ("__debug__" : Str)) = false := by decide) (he : starEach (e :: es) X.env = (false, eval e X.env) :: starEach es X.env := by rfl) (hpl : (backTo pos (starEach es X.env)).any (·.1) = false := by rfl) :
    PXE X W (.Call (.Name x p) (e :: es) [] pos) (tCallSD (spX X.K n g) [] (WE W) t) (xCall n g T) := ⟨pe_callSD Fn hr hg hm hk hb .nil (passAt tk) ha.pa hdb he hpl, fun G F H σ ρ xx R S hT hx =>
  ha.snd G F H σ ρ _ _ S hT fun vs ds F1 H1 ρ1 u1 S1 r1 h1 => by
    show spX X.K n g (vs ++ []) H1 R _
    rw [List.append_nil]
    refine ⟨F1, ds, _, by rw [r1.length]; exact h1.1, S1.hF, r1, h1.2, fun x cls d F' H' u hF hH xr q => ?_⟩
    have u' : Up G F1 F' := u.less S1.hG
    exact hx F' H' σ ρ1 cls d x (u1.trans u') (S1.grow u' hF hH (fun a o ha _ hf => u.isNone hf ha) u.out) xr q⟩
def xIf (C : TTp) (Xa Xb : TXe) : TXe := fun ρ xx => C ρ fun b ρ1 => if b = true then Xa ρ1 xx else Xb ρ1 xx
theorem pxe_if {c : Expr} {tc : TT} {C : TTp} (hc : PPT X c tc C) (ha : PXE X W a ta Xa) (hb : PXE X W b tb Xb) : PXE X W (.IfExp c a b pos) (tIf tc ta tb) (xIf C Xa Xb) := ⟨pe_ifExp hc.pt ha.pe hb.pe, fun G F H σ ρ xx R S hT hx =>
  hc.snd G F H σ ρ _ _ S hT fun b F1 H1 ρ1 u1 S1 q1 => by
    cases b with
    | true => exact ite_ti (ha.snd G F1 H1 σ ρ1 xx _ S1 (ite_t q1) (hx.mono u1))
    | false => exact ite_fi (hb.snd G F1 H1 σ ρ1 xx _ S1 (ite_f q1) (hx.mono u1))⟩
end
abbrev TXs := PEnds → XP → Ro → Prop
def SndXS (K : PySem.W.Frag) (W : WX) (t : TS) (T : TXs) : Prop := ∀ (G F H : Hp) (σ : L2.St) (ρ : Ro) (P : PEnds) (D : Ends) (xx : XP), Sim K G F H σ ρ → T P xx ρ → ERel K G F P D → XRel K W G F xx → t D σ H
structure PXS (X : Cx) (W : WX) (st : Stmt) (t : TS) (T : TXs) : Prop where
  ps : PS X st t
  snd : SndXS X.K W t T
structure PXSs (X : Cx) (W : WX) (st : List Stmt) (t : TS) (T : TXs) : Prop where
  ps : PSs X st t
  snd : SndXS X.K W t T
def liftXS (K : PySem.W.Frag) (W : WX) (T : TXs) : TS := fun D σ H => ∃ (G F : Hp) (ρ : Ro) (P : PEnds) (xx : XP), Sim K G F H σ ρ ∧ T P xx ρ ∧ ERel K G F P D ∧ XRel K W G F xx
section
variable {X : Cx} {W : WX} {st : Stmt} {rest : List Stmt} {t u : TS} {T : TSp} {U V' : TXs} {e : Expr} {te : TE} {Te : TEp} {Xe : TXe} {pos : Pos}
theorem PXSs.lift (h : PXSs X W rest t U) : PXSs X W rest (liftXS X.K W U) U :=
  ⟨⟨fun pins s σ H D I ⟨G, F, ρ, P, xx, S, hT, r, hx⟩ => h.ps.run pins s σ H D I (h.snd G F H σ ρ P D xx S hT r hx)⟩, fun G F H σ ρ P D xx S hT r hx => ⟨G, F, ρ, P, xx, S, hT, r, hx⟩⟩
def xOk (T : TSp) : TXs := fun P _ ρ => T P ρ
theorem pxs_ok (h : PPS X st t T) : PXS X W st t (xOk T) := ⟨h.ps, fun G F H σ ρ P D xx S hT r _ => h.snd G F H σ ρ P D S hT r⟩
def xOr (T : TSp) (U : TXs) : TXs := fun P xx ρ => T P ρ ∨ U P xx ρ
theorem pxs_or (h : PPS X st t T) (h2 : PXS X W st u U) : PXS X W st (fun D σ H => t D σ H ∨ u D σ H) (xOr T U) :=
  ⟨⟨fun pins s σ H D I q => q.elim (h.ps.run pins s σ H D I) (h2.ps.run pins s σ H D I)⟩, fun G F H σ ρ P D xx S hT r hx => hT.elim (fun q => .inl (h.snd G F H σ ρ P D S q r)) fun q => .inr (h2.snd G F H σ ρ P D xx S q r hx)⟩
def xNext : TXs := fun P _ ρ => P.nx ρ
def xSeq (U V : TXs) : TXs := fun P xx ρ => U { P with nx := V P xx } xx ρ
theorem pxss_nil : PXSs X W [] tNext xNext := ⟨pss_nil, fun G F H σ ρ P D xx S h r _ => r.nx F H σ ρ (.refl _ _) S h⟩
theorem pxss_one (h : PXS X W st t U) : PXSs X W [st] t U := ⟨pss_one h.ps, h.snd⟩
theorem pxss_cons (h1 : PXS X W st t U) (h2 : PXSs X W rest u V') : PXSs X W (st :: rest) (tSeq t u) (xSeq U V') := ⟨pss_cons h1.ps h2.ps, fun G F H σ ρ P D xx S h r hx =>
  h1.snd G F H σ ρ _ _ xx S h ⟨fun F' H' σ' ρ' u S' q => h2.snd G F' H' σ' ρ' P D xx S' q (r.mono u) (hx.mono u), r.rt, r.bk, r.ct⟩ hx⟩
def xIfS (C : TTp) (U V : TXs) : TXs := fun P xx ρ => C ρ fun b ρ1 => if b = true then U P xx ρ1 else V P xx ρ1
theorem pxs_if {c : Expr} {a b : List Stmt} {tc : TT} {C : TTp} (hc : PPT X c tc C) (ha : PXSs X W a t U) (hb : PXSs X W b u V') : PXS X W (.If c a b pos) (tIfS tc t u) (xIfS C U V') := ⟨ps_if hc.pt ha.ps hb.ps, fun G F H σ ρ P D xx S h r hx =>
  hc.snd G F H σ ρ _ _ S h fun b F' H' ρ' u S' q => by
    cases b with
    | true => exact ite_ti (ha.snd G F' H' σ ρ' P D xx S' (ite_t q) (r.mono u) (hx.mono u))
    | false => exact ite_fi (hb.snd G F' H' σ ρ' P D xx S' (ite_f q) (r.mono u) (hx.mono u))⟩
def xE (Xe : TXe) : TXs := fun _ xx ρ => Xe ρ xx
theorem pxs_set {i : Nat} {x : Str} {pos' : Pos} (hN : X.N.Nodup) (he : PXE X W e te Xe) (hi : X.N[i]? = some x := by rfl) (hx : Loc X.env.scope x := by first | exact Or.inl rfl | exact Or.inr rfl) (hs : swapsWith e (some (.Name x pos')) pos.line X.env = pure false := by rfl) (hf : X.fn x = true ∨ X.env.scope.names.lookup x = some .local := by first | exact .inl rfl | exact .inr rfl | assumption) :
    PXS X W (.Assign [.Name x pos'] e pos) (tAsg te (gName i)) (xE Xe) := ⟨ps_set hN hi hx he.pe hs hf, fun G F H σ ρ P D xx S h r hx => he.snd G F H σ ρ xx _ S h hx⟩
def xforW (g : TGp) (tb : TXs) (P : PEnds) (xx : XP) : List D → Ro → Prop
  | [], ρ => P.nx ρ
  | d :: ds, ρ => g d ρ fun ρ1 => tb { P with nx := xforW g tb P xx ds, ct := xforW g tb P xx ds, bk := P.nx } xx ρ1
def xFor (Ti : TAp) (g : TGp) (tb : TXs) : TXs := fun P xx ρ => Ti ρ fun ds ρ1 => xforW g tb P xx ds ρ1
theorem pxs_for {tg iter : Expr} {body : List Stmt} {wi : TI} {Ti : TAp} {g : TG} {Gp : TGp} {is : List Nat} {tb : TS} {Tb : TXs} (hp : PassesOwn (model X.prog X.w) X.A X.env X.xe) (hc : X.calm = true) (hi : PPI X tg iter wi Ti) (hg : PTg X tg g Gp is) (hb : PXSs X W body tb Tb)
    (hs : ∀ x, foldedSetIterable iter X.env x = pure x := by intro _; rfl) : PXS X W (.For tg iter body [] pos) (tFor wi g tb) (xFor Ti Gp Tb) := ⟨ps_for hp hc hi.pi hg.pg hb.ps hs, fun G F H σ ρ P D xx S h r hx =>
  hi.snd G F H σ ρ _ _ S h fun J ds F1 H1 ρ1 u1 S1 J1 w1 => by
    refine ⟨fun i m σ' H' => m + i = ds.length ∧ ∃ F' ρ', Up G F1 F' ∧ Sim X.K G F' H' σ' ρ' ∧ xforW Gp Tb P xx (ds.drop i) ρ', ⟨ds.length, by omega, F1, ρ1, .refl _ _, S1, w1⟩, fun i m σ' H' ⟨hm, F', ρ', u', S', w'⟩ => ?_⟩
    have J' := J1 F' H' u'.ex S'.hF
    by_cases hlt : i < ds.length
    · refine .inr ⟨(J'.1 i ds[i] (List.getElem?_eq_getElem hlt)).1, fun σ'' H'' => ∃ F'' ρ'', Up G F1 F'' ∧ Sim X.K G F'' H'' σ'' ρ'' ∧ xforW Gp Tb P xx (ds.drop (i + 1)) ρ'', fun σ'' H'' q => ⟨m - 1, by omega, by omega, q⟩, fun x H'' hy => ?_⟩
      obtain ⟨F2, res⟩ := (J'.1 i ds[i] (List.getElem?_eq_getElem hlt)).2 x H'' hy
      obtain ⟨u2, S2, r2⟩ := S'.res res
      rw [List.drop_eq_getElem_cons hlt] at w'
      refine hg.snd G F2 H'' σ' ρ' _ _ x _ S2 r2 w' fun F3 H3 σ3 ρ3 u3 S3 _ _ q3 => ?_
      have up := (u'.trans u2).trans u3
      exact hb.snd G F3 H3 σ3 ρ3 _ _ xx S3 q3 ⟨fun F4 H4 σ4 ρ4 u4 S4 q4 => ⟨F4, ρ4, up.trans u4, S4, q4⟩, fun F4 H4 σ4 ρ4 v c u4 S4 q4 => r.rt F4 H4 σ4 ρ4 v c (u1.trans (up.trans u4)) S4 q4,
        fun F4 H4 σ4 ρ4 u4 S4 q4 => r.nx F4 H4 σ4 ρ4 (u1.trans (up.trans u4)) S4 q4, fun F4 H4 σ4 ρ4 u4 S4 q4 => ⟨F4, ρ4, up.trans u4, S4, q4⟩⟩ (hx.mono (u1.trans up))
    · have e : i = ds.length := by omega
      subst e
      rw [List.drop_length] at w'
      exact .inl ⟨J'.2, r.nx F' H' σ' ρ' (u1.trans u') S' w'⟩⟩
end
def spI (K : PySem.W.Frag) (c : Str) (C : Addr) (ok : D → Prop) : Sp := fun vs H Q _ => ∃ (F : Hp) (a : Addr) (v : V) (d : D), vs = [.ref a, v] ∧ H a = some (exo a C none) ∧ F a = none ∧ Same F H ∧ Rep K F v d ∧ ok d ∧
  ∀ (dd : Addr) (v' : V) (F' H' : Hp), H' a = some (exo a C (some dd)) → H' dd = some (exd dd [(xfield c, v')]) → H dd = none → dd ≠ a → Up H F F' → F' dd = none → (∀ b o, b ≠ a → F' b = some o → H' b = some o) → (∀ b o, b ≠ a → H b = some o → H' b = some o) → Rep K F' v' d → Q .non H'
section
variable {X : Cx} {W : WX} {x : Str} {C fI : Addr} {k : Nat} {fd : FuncData} {ps : List Str} {ok : D → Prop} {e : Expr} {ta : TA} {Ta : TAp} {p pos pos2 : Pos} {newId initId B : String} {tl : List Value}
def xRaise (c : Str) (ok : D → Prop) (T : TAp) : TXs := fun _ xx ρ => T ρ fun ds ρ1 => match ds with | [d] => ok d ∧ xx ⟨c, d⟩ ρ1 | _ => False
theorem pxs_raise (hc : X.calm = true) (tk : Takes X W) (O : PySem.OEY.Over B newId initId tl) (T : OwnX X.K C newId tl) (hns : PySem.W.nsIn X.K mainGlobals x = some (some (.ref C))) (iC : PySem.W.findIn X.K (.ref C) "__init__" = some (some (.ref fI))) (tI : PySem.W.typeIn X.K (.ref fI) = some (.type "function"))
    (F1 : FnOk X.prog X.w X.K X.mg X.base CX0 k fI fd ps (spI X.K x C ok)) (hr : Room (k + 1) X.A) (hb : Binds X.K fd ps []) (hg : Gl X x) (hm : X.mg x = some (.ref C)) (ha : PPA X [e] ta Ta)
    (hdb : (x == ("__debug__" : Str)) = false := by decide) (he : starEach [e] X.env = (false, eval e X.env) :: starEach [] X.env := by rfl) (hpl : (backTo pos (starEach [] X.env)).any (·.1) = false := by rfl) (hU : x ≠ unl := by decide) :
    PXS X W (.Raise (some (.Call (.Name x p) [e] [] pos)) none pos2) (fun _ σ H => tMkO C (spI X.K x C ok) [] ta σ H fun cls d H' => W cls d σ H') (xRaise x ok Ta) :=
  ⟨ps_raise hc tk (pmk_oy O T iC tI F1 hr hb .nil pass0 hg hm ha.pa hdb he hpl), fun G F H σ ρ P D xx S hT r hx =>
    ha.snd G F H σ ρ _ _ S hT fun vs ds F1 H1 ρ1 u1 S1 r1 h1 => by
      match ds, r1, h1 with
      | [d], .cons (v := v) rv .nil, h1 =>
        refine ⟨(by show (1 : Nat) ≤ 1000; decide), fun a na => ?_⟩
        have fa : F1 a = none := S1.freshF na
        refine ⟨F1, a, v, d, rfl, upd_same, fa, fun b o q => ?_, rv, h1.1, fun dd v' F' H' ea ed hd ne up fd' sF sH rp => ?_⟩
        · rw [upd_ne (ne_of_none (S1.hF _ _ q) na)]; exact S1.hF _ _ q
        have H1d : H1 dd = none := by rw [upd_ne ne] at hd; exact hd
        have F'a : F' a = none := up.isNone fa upd_same
        refine ⟨rfl, dd, _, ea, ed, H1d, ?_⟩
        have hH : Same H1 (upd (del H' a) dd (.xd [(xfield x, v')])) := fun b o q => by
          have n1 : b ≠ a := ne_of_none q na
          have n2 : b ≠ dd := ne_of_none q H1d
          rw [upd_ne n2, del_ne n1]
          exact sH b o n1 (by rw [upd_ne n1]; exact q)
        have sm : Same F' (upd F' dd (.xd [(xfield x, v')])) := same_new fd'
        have hF : Same (upd F' dd (.xd [(xfield x, v')])) (upd (del H' a) dd (.xd [(xfield x, v')])) := fun b o q => by
          by_cases n2 : b = dd
          · subst n2; rw [upd_same] at q ⊢; exact q
          · rw [upd_ne n2] at q ⊢
            have n1 : b ≠ a := ne_of_none q F'a
            rw [del_ne n1]
            exact sF b o n1 q
        have u2 : Up G F1 (upd F' dd (.xd [(xfield x, v')])) := ⟨up.ex.trans sm, fun b o q => by
          by_cases n2 : b = dd
          · subst n2; exact .inr (S1.freshG H1d)
          · rw [upd_ne n2] at q
            rcases up.out b o q with z | z
            · exact .inl z
            · by_cases n1 : b = a
              · rw [n1, F'a] at q; cases q
              · rw [upd_ne n1] at z; exact .inr (S1.freshG z)⟩
        refine hx _ _ σ ρ1 _ _ ⟨x, d⟩ (u1.trans u2) (S1.grow u2 hF hH (fun b us hb _ hf => ?_) fun b o q => ?_) ⟨C, rfl, .inl ⟨hU, hns, dd, v', rfl, upd_same, rp.mono sm⟩⟩ h1.2
        · have n2 : b ≠ dd := ne_of_none hb H1d
          have n1 : b ≠ a := ne_of_none hb na
          rw [upd_ne n2]
          exact up.isNone hf (by rw [upd_ne n1]; exact hb)
        · by_cases n2 : b = dd
          · subst n2; exact .inr H1d
          · rw [upd_ne n2] at q
            rcases up.out b o q with z | z
            · exact .inl z
            · by_cases n1 : b = a
              · subst n1; rw [F'a] at q; cases q
              · rw [upd_ne n1] at z; exact .inr z
      | [], _, h1 => exact h1.elim
      | _ :: _ :: _, _, h1 => exact h1.elim⟩
end
section
variable {X : Cx} {n y : Str} {i j : Nat} {tt : Expr} {body : List Stmt} {p1 p2 p3 pos pos' : Pos} {T : TXs} {cs : List Str}
def pTry (i j : Nat) (cs : List Str) (T : TXs) : TSp := fun P ρ => T P (fun x ρ' => x.c ∈ cs ∧ P.nx (((ρ'.set i (some (.val (.exc x.c x.y)))).set j (some (.val (.exc x.c x.y)))).set i none)) ρ
theorem pps_try (hs : X.stack = X.env :: X.outer) (hf : X.env.frame = some X.env.locals) (hex : X.ex = []) (hN : X.N.Nodup) (hi : X.N[i]? = some n) (hj : X.N[j]? = some y) (hln : X.env.scope.names.lookup n = some .local) (hly : X.env.scope.names.lookup y = some .local)
    (hb : ∀ (W : WX) (pn : List (Addr × Obj)) (xe : Value → Shared → Prop), Takes (X.tr pn xe) W → PassesOwn (model X.prog X.w) X.A X.env xe → PXSs (X.tr pn xe) W body (liftXS X.K W T) T)
    (hh : ∀ C, (∃ c ∈ cs, PySem.W.nsIn X.K mainGlobals c = some (some (.ref C))) → Hits X tt (.ref C))
    (sw : swapsWith (.Name n p2) (some (.Name y p1)) p3.line X.env = pure false := by rfl) (hd : (n == ("__debug__" : Str)) = false := by decide) (hcd : (n == ("__classdict__" : Str)) = false := by decide) (hU : unl ∉ cs := by decide) :
    PPS X (.Try body [.ExceptHandler (some tt) (some n) [.Assign [.Name y p1] (.Name n p2) p3] pos'] [] [] pos) (fun D σ H => liftXS X.K (wKeep i j (fun C => ∃ c ∈ cs, PySem.W.nsIn X.K mainGlobals c = some (some (.ref C))) D) T D σ H) (pTry i j cs T) :=
  ⟨ps_try_keep (tb := fun W => liftXS X.K W T) hs hf hex hN hi hj hln hly (fun W pn xe tk po => (hb W pn xe tk po).ps) hh sw hd hcd, fun G F H σ ρ P D S hT r => by
    refine ⟨G, F, ρ, P, _, S, hT, r, fun F' H' σ' ρ' cls d x u S' xr q => ?_⟩
    obtain ⟨C, h2, h⟩ := xr
    obtain ⟨h1, dd, v, h3, h4, h5⟩ : PySem.W.nsIn X.K mainGlobals x.c = some (some (.ref C)) ∧ ∃ (dd : Addr) (v : V), d = some dd ∧ F' dd = some (.xd [(xfield x.c, v)]) ∧ Rep X.K F' v x.y := by
      rcases h with h | h
      · exact h.2
      · exact absurd (h.1 ▸ q.1) hU
    refine ⟨C, dd, h2, h3, ⟨x.c, q.1, h1⟩, fun a na => ?_⟩
    have fa : F' a = none := S'.freshF na
    have S1 := S'.new (o := exk a C dd) na
    have rp : Rep X.K (upd F' a (exk a C dd)) (.ref a) (.exc x.c x.y) := .exc h1 upd_same (by rw [upd_ne (ne_of_none h4 fa)]; exact h4) (h5.mono (same_new fa))
    exact r.nx _ _ _ _ (u.trans (S'.upNew na)) (((S1.setVal i rp).setVal j rp).forget i none) q.2⟩
end
end
section
variable {P : Program} {w : World} {K : PySem.W.Frag} {mg : Str → Option Value} {base : Heap} {x qual : Str} {st : Stmt} {f : Addr} {fd : FuncData} {N ps : List Str} {k : Nat}
theorem okX {g : FX} {T : TXs} (Fn : Fun K x qual st f fd) (S : FnScope N ps (defScope st))
    (hb : ∀ (cdv : Value) (A : Around) (outer : List Env) (s : Shared) (H : Hp) (E : XK), Room k (A.deeper (envOfC qual (defScope st) s.heap.objs.size f cdv)) → ∃ t, PXSs (cxOf (L2.CX P w) P w K mg base N qual (defScope st) f cdv A outer s H E) (fun cls d _ H => E cls d H) (defBody st) t T)
    (hT : ∀ ds C, ds.length = ps.length → g ds C → T { nx := fun _ => False, rt := fun _ _ => False } (fun x _ => C x) (startA N ds)) : FnOk P w K mg base (L2.CX P w) (k + 1) f fd ps (spX K ps.length g) := by
  refine Fn.okX S (fun vs H Q E h => ?_) (fun cdv A outer s H vs Q E hr h => ?_)
  · obtain ⟨F, ds, C, hl, _⟩ := h
    exact hl
  · obtain ⟨F, ds, C, hl, hF, r, hg, hQ⟩ := h
    obtain ⟨t, ht⟩ := hb cdv A outer s H E hr
    refine ⟨t, ht.ps, ?_⟩
    have S0 : Sim K H F H (L2.start N vs) (startA N ds) := by
      unfold L2.start startA
      rw [r.length]
      exact sim_vals hF (.rfl' F H) r _
    exact ht.snd H F H _ _ _ _ _ S0 (hT ds C (by rw [← r.length]; exact hl) hg) ⟨fun _ _ _ _ _ _ q => q.elim, fun _ _ _ _ _ _ _ _ q => q.elim, fun _ _ _ _ _ _ q => q, fun _ _ _ _ _ _ q => q⟩
      fun F' H' σ' ρ' cls d x u S' xr q => hQ x cls d F' H' u S'.hF S'.hG xr q
end
end Pl
namespace Pl
open PySem PySem.Spec PyProof.Rows L2
section
variable [TJ]
theorem xb_value (c : Str) (h : c ∈ (["Clash", "Against", "Unlike", "Astray", "BadText", "BadRow"] : List Str)) : xb c = .v := if_pos h
def inS (st : Stmt) (j : Nat) : Stmt := match st with
  | .ClassDef _ _ _ body _ _ _ _ _ _ _ => body.getD j (.Pass ⟨0, 0, 0, 0⟩)
  | _ => .Pass ⟨0, 0, 0, 0⟩
abbrev xtl (c : Str) : List Value := (xb c).tl.map Value.type
structure XCl (K : PySem.W.Frag) (mg : Str → Option Value) (c : Str) (C : Addr) : Prop where
  cls : ∃ q N bs sn sub ab col dd k0 k1 k2 k3 k5, K.lookup C = some (excClassObj c q C N bs (xtl c) true sn sub ab col dd k0 k1 k2 k3 k5 (xb c).new)
  sa : PySem.W.findIn K (.ref C) "__setattr__" = some (some (.builtin "object.__setattr__"))
  exC : PySem.W.subIn K (.ref C) (.type "BaseException") = some true
  tyC : PySem.W.typeIn K (.ref C) = some (.type "type")
  kC : PySem.W.keepIn K (.ref C) = true
  ask : AskX K C
  ns : PySem.W.nsIn K mainGlobals c = some (some (.ref C))
  fno : PySem.W.findIn K (.ref C) (xfield c) = some none
  gm : mg c = some (.ref C)
section
variable {K : PySem.W.Frag} {mg : Str → Option Value} {c c2 : Str} {C C2 : Addr}
theorem XCl.own (T : XCl K mg c C) : OwnX K C (xb c).new (xtl c) := by
  obtain ⟨q, N, bs, sn, sub, ab, col, dd, k0, k1, k2, k3, k5, h⟩ := T.cls
  exact ⟨⟨c, q, N, bs, sn, sub, ab, col, dd, k0, k1, k2, k3, k5, h⟩, T.sa, T.exC, T.tyC, T.kC⟩
theorem XCl.same (T : XCl K mg c C) (h : PySem.W.nsIn K mainGlobals c = some (some (.ref C2))) : C2 = C := by
  rw [T.ns] at h
  cases h; rfl
theorem XCl.ne (T : XCl K mg c C) (T2 : XCl K mg c2 C2) (h : c ≠ c2) : C ≠ C2 := fun z => by
  obtain ⟨q, N, bs, sn, sub, ab, col, dd, k0, k1, k2, k3, k5, e⟩ := T.cls
  obtain ⟨q', N', bs', sn', sub', ab', col', dd', j0, j1, j2, j3, j5, e'⟩ := T2.cls
  subst z
  rw [e] at e'
  have z := Option.some.inj e'
  unfold excClassObj at z
  injection z with _ _ z _
  injection z with z
  injection z with z
  exact h z
theorem xtl_obj (c : Str) : (xtl c).contains (.type "object") = true := by
  unfold xtl
  cases xb c <;> decide +kernel
def isaX (c n : Str) : Bool := c == n || (xb c).tl.any fun s => Str.ofString s == n
theorem XCl.kit (T : XCl K mg c C) (T2 : XCl K mg c2 C2) (hb : ∀ b : XB, (b.tl.any fun s => Str.ofString s == c2) = false) : PySem.W.kitOne K (.ref C) (.ref C2) = some (isaX c c2) := by
  have e : isaX c c2 = (c == c2) := by unfold isaX; rw [hb, Bool.or_false]
  rw [e]
  unfold PySem.W.kitOne
  by_cases h : c = c2
  · subst h
    obtain rfl := T.same T2.ns
    rw [if_pos (by simp)]; simp
  · have ne : C ≠ C2 := T.ne T2 h
    have e1 : (Value.ref C == Value.ref C2) = false := by
      cases q : (Value.ref C == Value.ref C2) with
      | false => rfl
      | true => exact absurd (Value.ref.inj (beq_iff_eq.mp q)) ne
    have e2 : (c == c2) = false := by simpa using h
    rw [if_neg (by rw [e1]; decide), e2]
    obtain ⟨cd, h1, _⟩ := T2.own.cd
    show (if ((PySem.W.clsIn K C2).isSome && PySem.W.typeIn K (.ref C2) == some (.type "type")) = true then PySem.W.subIn K (.ref C) (.ref C2) else none) = some false
    rw [h1, T2.tyC, if_pos (by rfl)]
    show PySem.W.mroIn K C (.ref C2) = some false
    rw [T.own.mro, e1, Bool.false_or]
    unfold xtl
    cases xb c <;> rfl
theorem XCl.kitB (T : XCl K mg c C) {n : String} (hc : c ≠ Str.ofString n) (hm : PySem.W.kitMeta n = true) (hb : ∀ b : XB, (b.tl.map Value.type).contains (.type n) = b.tl.any fun s => Str.ofString s == Str.ofString n) : PySem.W.kitOne K (.ref C) (.type n) = some (isaX c (Str.ofString n)) := by
  have e2 : (c == Str.ofString n) = false := by simpa using hc
  have e : isaX c (Str.ofString n) = ((xb c).tl.any fun s => Str.ofString s == Str.ofString n) := by unfold isaX; rw [e2, Bool.false_or]
  rw [e]
  unfold PySem.W.kitOne
  rw [if_neg (by rw [show (Value.ref C == Value.type n) = false from rfl]; decide)]
  show (if PySem.W.kitMeta n = true then PySem.W.subIn K (.ref C) (.type n) else none) = _
  rw [if_pos hm]
  show PySem.W.mroIn K C (.type n) = _
  rw [T.own.mro, ← hb]
  show some (false || _) = _
  rw [Bool.false_or]
theorem XCl.exm (T : XCl K mg c C) (T2 : XCl K mg c2 C2) (hb : ∀ b : XB, (b.tl.any fun s => Str.ofString s == c2) = false) : PySem.W.exmOne K (.ref C) (.ref C2) = some (c == c2) := by
  unfold PySem.W.exmOne
  rw [T2.exC, if_pos (by rfl)]
  obtain ⟨cd, h1, _⟩ := T2.own.cd
  show (if ((PySem.W.clsIn K C2).isSome && PySem.W.typeIn K (.ref C2) == some (.type "type")) = true then PySem.W.subIn K (.ref C) (.ref C2) else none) = _
  rw [h1, T2.tyC, if_pos (by rfl)]
  show PySem.W.mroIn K C (.ref C2) = _
  rw [T.own.mro]
  have z : (xtl c).contains (.ref C2) = false := by unfold xtl; cases xb c <;> rfl
  rw [z, Bool.or_false]
  by_cases h : c = c2
  · subst h
    obtain rfl := T.same T2.ns
    simp
  · have e2 : (c == c2) = false := by simpa using h
    rw [e2]
    cases q : (Value.ref C == Value.ref C2) with
    | false => rfl
    | true => exact absurd (Value.ref.inj (beq_iff_eq.mp q)) (T.ne T2 h)
end
def XCs (K : PySem.W.Frag) (mg : Str → Option Value) (cs : List Str) : Prop := ∀ c ∈ cs, ∃ C, XCl K mg c C
theorem xcs_nil {K : PySem.W.Frag} {mg : Str → Option Value} : XCs K mg [] := fun _ h => nomatch h
theorem xcs_cons {K : PySem.W.Frag} {mg : Str → Option Value} {c : Str} {C : Addr} {cs : List Str} (h : XCl K mg c C) (t : XCs K mg cs) : XCs K mg (c :: cs) := fun x hx => by
  rcases List.mem_cons.mp hx with rfl | hx
  · exact ⟨C, h⟩
  · exact t x hx
section
variable {X : Cx} {c1 c2 c3 c4 : Str} {C1 C2 C3 C4 C : Addr} {p1 p2 p3 p4 tp : Pos} {kk : Nat}
abbrev HitOk (X : Cx) (cs : List Str) (tt : Expr) : Prop := ∀ C, (∃ c ∈ cs, PySem.W.nsIn X.K mainGlobals c = some (some (.ref C))) → Hits X tt (.ref C)
abbrev noB (n : Str) : Prop := ∀ b : XB, (b.tl.any fun s => Str.ofString s == n) = false
theorem named_of (T : XCl X.K X.mg c1 C1) (hg : Gl X c1) (hd : (c1 == ("__debug__" : Str)) = false) : Named X c1 C1 := ⟨hg, hd, T.gm⟩
theorem hit1 (T : XCl X.K X.mg c1 C1) (hg : Gl X c1) (hn : noB c1 := by intro b; cases b <;> decide +kernel) (hd : (c1 == ("__debug__" : Str)) = false := by decide) : HitOk X [c1] (.Name c1 p1) := fun C ⟨c, hc, e⟩ => by
  obtain rfl := List.mem_singleton.mp hc
  obtain rfl := T.same e
  exact hits1 (named_of T hg hd) (by rw [T.exm T hn]; simp)
end
structure ItX (X : Cx) (cs : List Str) (n : Str) (v : V) : Prop where
  ex : ∃ u, ClsV v u ∧ ∀ c ∈ cs, ∀ C, XCl X.K X.mg c C → PySem.W.kitOne X.K (.ref C) u = some (isaX c n)
  pe : ∀ pos, PE X (.Name n pos) (tC v)
section
variable {X : Cx} {cs : List Str}
theorem itx_blt {n : String} (hg : Gl X (Str.ofString n)) (hm : X.mg (Str.ofString n) = none) (hcs : ∀ c ∈ cs, c ≠ Str.ofString n := by decide) (hk : PySem.W.kitMeta n = true := by decide +kernel)
    (hb : ∀ b : XB, (b.tl.map Value.type).contains (.type n) = b.tl.any (fun s => Str.ofString s == Str.ofString n) := by intro b; cases b <;> decide +kernel) (hv : bootBuiltins (Str.ofString n) = some (.type n) := by decide +kernel)
    (hnn : Str.ofString n ≠ "__name__" := by decide) (hd : (Str.ofString n == ("__debug__" : Str)) = false := by decide) : ItX X cs (Str.ofString n) (.ty n) :=
  ⟨⟨.type n, .ty n, fun c hc C T => T.kitB (hcs c hc) hk hb⟩, fun pos => pe_bltn hg hm hv rfl hnn hd⟩
def isXw (cs ns : List Str) (d : D) (k : Bool → Prop) : Prop := match d with
  | .exc c _ => c ∈ cs ∧ k (ns.any (isaX c))
  | _ => False
def pIsX (cs ns : List Str) (Te : TEp) : TEp := fun ρ Q => Te ρ fun d ρ1 => isXw cs ns d fun b => Q (.bl b) ρ1
variable {e : Expr} {te : TE} {Te : TEp} {pos fp : Pos} {n1 n2 n3 : Str} {v1 v2 v3 : V} {q1 q2 q3 tp : Pos} {kk : Nat}
theorem isX_look {K : PySem.W.Frag} {F H : Hp} {v : V} {d : D} {cs ns : List Str} {k : Bool → Prop} (r : Rep K F v d) (h : isXw cs ns d k) : ∃ (a C dd : Addr) (w : V) (c : Str), v = .ref a ∧ F a = some (exk a C dd) ∧ F dd = some (.xd [(xfield c, w)]) ∧ PySem.W.nsIn K mainGlobals c = some (some (.ref C)) ∧ c ∈ cs ∧ k (ns.any (isaX c)) := by
  cases r with
  | exc h1 h2 h3 h4 => exact ⟨_, _, _, _, _, rfl, h2, h3, h1, h.1, h.2⟩
  | _ => exact h.elim
theorem ppe_isX (Zc : XCs X.K X.mg cs) (I1 : ItX X cs n1 v1) (hg : Gl X "isinstance") (hm : X.mg "isinstance" = none) (he : PPE X e te Te)
    (hs : starEach [e, .Name n1 q1] X.env = (false, eval e X.env) :: starEach [.Name n1 q1] X.env := by rfl) (hs2 : starEach [.Name n1 q1] X.env = (false, eval (.Name n1 q1) X.env) :: starEach [] X.env := by rfl) (hpl : (backTo pos (starEach [.Name n1 q1] X.env)).any (·.1) = false := by rfl) :
    PPE X (.Call (.Name "isinstance" fp) [e, .Name n1 q1] [] pos) (tCB (rIsX X.K) (tCons te (tCons (tC v1) tNil))) (pIsX cs [n1] Te) :=
  ⟨pe_callB call_isX hg hm (by decide +kernel) (pa_cons he.pe (pa_cons (I1.pe q1) pa_nil hs2) hs) (by decide) (by decide) hs hpl, fun G F H σ ρ Q R S hT k =>
    he.snd G F H σ ρ _ _ S hT fun v d F1 H1 ρ1 u1 S1 r1 h1 => by
      obtain ⟨a, C, dd, w, c, rfl, e1, e2, e3, hc, q⟩ := isX_look (H := H1) r1 h1
      obtain ⟨C', T⟩ := Zc c hc
      obtain rfl := T.same e3
      obtain ⟨u, cv, hk⟩ := I1.ex
      have hk := hk c hc C T
      refine ⟨a, C, dd, _, _, _, v1, u, _, rfl, S1.hF _ _ e1, S1.hF _ _ e2, T.own, xtl_obj c, T.ask, cv, hk, k _ _ F1 H1 ρ1 u1 S1 (.bl _) ?_⟩
      have q' := q
      simp only [List.any_cons, List.any_nil, Bool.or_false] at q'
      exact q'⟩
def pXf (cs : List Str) (f : Str) (Te : TEp) : TEp := fun ρ Q => Te ρ fun d ρ1 => match d with
  | .exc c y => c ∈ cs ∧ xfield c = f ∧ Q y ρ1
  | _ => False
theorem ppe_xf {f : Str} (Zc : XCs X.K X.mg cs) (he : PPE X e te Te) (hb : attributeBase e f X.env (eval e X.env) = eval e X.env := by rfl) : PPE X (.Attribute e f pos) (tXfk X.K f te) (pXf cs f Te) :=
  ⟨pe_xfk he.pe hb, fun G F H σ ρ Q R S hT k => he.snd G F H σ ρ _ _ S hT fun v d F1 H1 ρ1 u1 S1 r1 h1 => by
    cases r1 with
    | @exc a C dd w c y e3 e1 e2 rw' =>
      obtain ⟨hc, hf, q⟩ := h1
      obtain ⟨C', T⟩ := Zc c hc
      obtain rfl := T.same e3
      refine ⟨a, C, dd, _, _, _, w, rfl, S1.hF _ _ e1, S1.hF _ _ e2, T.own, T.ask, by rw [← hf]; exact T.fno, by simp [List.lookup, hf], k w y F1 H1 ρ1 u1 S1 rw' q⟩
    | _ => exact h1.elim⟩
end
end
def RdI (K : PySem.W.Frag) (C : Addr) (ok : D → Prop) (te : TE) : Prop := ∀ (F H : Hp) (a : Addr) (v : V) (d : D) (Q : VK), Same F H → F a = none → H a = some (exo a C none) → Rep K F v d → ok d →
  (∀ v' F' H', Up H F F' → Same F' H' → Same H H' → Rep K F' v' d → Q v' H') → te [some (.ref a), some v] H Q
theorem rdi_var {K : PySem.W.Frag} {C : Addr} {ok : D → Prop} : RdI K C ok (tVar 1) := fun F H a v d Q hF _ _ r _ k => ⟨v, rfl, k v F H (.refl _ _) hF (.refl H) r⟩
section
variable {P : Program} {w : World} {K : PySem.W.Frag} {mg : Str → Option Value} {base : Heap} {c : Str} {C : Addr} {x qual m p : Str} {st : Stmt} {f : Addr} {fd : FuncData} {k : Nat} {ok : D → Prop}
theorem ok_init (Fn : Fun K x qual st f fd) (S : FnScope ["self", p] ["self", p] (defScope st)) (T : XCl K mg c C)
    (hb : ∀ (cdv : Value) (A : Around) (outer : List Env) (s : Shared) (H : Hp) (E : XK), Room k (A.deeper (envOfC qual (defScope st) s.heap.objs.size f cdv)) → ∃ te, RdI K C ok te ∧
      PSs (cxOf CX0 P w K mg base ["self", p] qual (defScope st) f cdv A outer s H E).nox (defBody st) (tSeq (tDrop (tOyI K (xb c).new (xtl c) (tCons (tVar 0) (tCons (tC (.str m)) tNil)))) (tOyS K (xb c).new (xtl c) (xfield c) (tVar 0) te))) :
    FnOk P w K mg base CX0 (k + 1) f fd ["self", p] (spI K c C ok) := by
  refine Fn.ok S (fun vs H Q E h => ?_) (fun cdv A outer s H vs Q E hr h => ?_)
  · obtain ⟨F, a, v, d, rfl, _⟩ := h
    rfl
  · obtain ⟨te, hte, ht⟩ := hb cdv A outer s H E hr
    refine ⟨_, ht, ?_⟩
    obtain ⟨F, a, v, d, rfl, ea, fa, hF, r, ho, k'⟩ := h
    refine ⟨.ref a, rfl, a, C, [.str m], rfl, by show (1 : Nat) ≤ 1000; decide, T.own, ea, ?_⟩
    refine hte F H a v d _ hF fa ea r ho fun v' F' H' u sF sH r' => ?_
    refine ⟨.ref a, rfl, a, C, rfl, T.own, T.fno, sH _ _ ea, fun dx nd ne => ?_⟩
    have Hd : H dx = none := sH.free nd
    refine k' dx v' F' _ upd_same (by rw [upd_ne ne, upd_same]) Hd ne u (sF.free nd) (fun b o nb q => ?_) (fun b o nb q => ?_) r'
    · rw [upd_ne nb, upd_ne (ne_of_none (sF _ _ q) nd)]; exact sF _ _ q
    · rw [upd_ne nb, upd_ne (ne_of_none (sH _ _ q) nd)]; exact sH _ _ q
end
end Pl
namespace Pl
open PySem PySem.Spec PyProof.Rows L2
section
variable [TJ]
def liftA (K : PySem.W.Frag) (T : TAp) : TA := fun σ H R => ∃ (G F : Hp) (ρ : Ro) (Q : List D → Ro → Prop), Sim K G F H σ ρ ∧ T ρ Q ∧ ∀ vs ds F' H' ρ', Up G F F' → Sim K G F' H' σ ρ' → Reps K F' vs ds → Q ds ρ' → R vs H'
theorem PPA.lift {X : Cx} {es : List Expr} {t : TA} {T : TAp} (h : PPA X es t T) : PPA X es (liftA X.K T) T :=
  ⟨⟨fun pos pins s σ H Q I ⟨G, F, ρ, Q', S, hT, k⟩ => h.pa.run pos pins s σ H Q I (h.snd G F H σ ρ Q' Q S hT k)⟩, fun G F H σ ρ Q R S hT k => ⟨G, F, ρ, Q, S, hT, k⟩⟩
variable {X : Cx} {W : WX} {k : Nat} {f : Addr} {fd : FuncData} {ps : List Str} {n : Nat} {x : Str} {p pc pos : Pos} {e tg iter : Expr} {es : List Expr} {scope : Scope} {own : List (Str × Nat)} {wi : TI} {Ti : TAp} {Gp : TGp} {is : List Nat} {T : TAp}
end
end Pl
namespace Pl
open PySem PySem.Spec PyProof.Rows L2
variable [TJ]
theorem ppe_gint {X : Cx} {x : Str} {i : Int} {pos : Pos} (hg : Gl X x) (hm : ∃ t, X.mg x = some (.int i t)) (hd : (x == ("__debug__" : Str)) = false := by decide) : PPE X (.Name x pos) (tC (.int i)) (pC (.int i)) := by
  obtain ⟨t, hm⟩ := hm
  exact ⟨pe_glob hg hm ⟨t, rfl⟩ hd, snd_c fun _ => .int i⟩
theorem ppe_gstr {X : Cx} {x y : Str} {pos : Pos} (hg : Gl X x) (hm : ∃ t, X.mg x = some (.str y t)) (hd : (x == ("__debug__" : Str)) = false := by decide) : PPE X (.Name x pos) (tC (.str y)) (pC (.str y)) := by
  obtain ⟨t, hm⟩ := hm
  exact ⟨pe_glob hg hm ⟨t, rfl⟩ hd, snd_c fun _ => .str y⟩
end Pl
namespace Pl
open PySem PySem.Spec PyProof.Rows L2
abbrev EX (C : XD → Prop) : XP := fun x _ => C x
abbrev E0 : PEnds := { nx := fun _ => False, rt := fun _ _ => False }
abbrev okAny : D → Prop := fun _ => True
end Pl
namespace Pl
open PySem PySem.Spec PyProof.Rows L2
abbrev N_figures_of : List Str := [("number" : Str), ("blocks" : Str), ("left" : Str), ("block" : Str)]
def T_figures_of : TSp :=
  (pSeq (pSet 1 (pLstO pNil))
    (pSeq (pSet 2 (pVal (pVar 0)))
    (pSeq (pWhile (pTest (pOp fGe (pVar 2) (pC (.int 1000000000000000000000000000000000000000000000000000000000000))))
    (pSeq pNever pNever))
    (pSeq (pAppend 1 (pCB fStrI (pCons (pVar 2) pNil)))
    (pRet (pVal (pJoin (pC (.str "")) (pUn fRev (pVar 1)))))))))
abbrev N_number_of_figures : List Str := [("figures" : Str), ("head" : Str), ("number" : Str), ("at" : Str)]
def T_number_of_figures : TSp :=
  (pSeq (pSet 1 (pVal (pOp fMod (pLenO 0) (pC (.int 60)))))
    (pSeq (pSet 2 (pVal (pCB fIntS (pCons (pOp fAdd (pC (.str "0")) (pSlS (pVar 0) pNoPart (pPart (pVar 1)))) pNil))))
    (pSeq (pFor (jRng3 (pCons (pVar 1) (pCons (pLenO 0) (pCons (pC (.int 60)) pNil)))) (hName 3) pNever)
    (pRet (pMove 2)))))
abbrev N_is_figures : List Str := [("word" : Str), ("sign" : Str)]
def T_is_figures : TSp :=
  (pSeq (pIfS (pOr (pTest (pOp fEq (pVar 0) (pC (.str "")))) (pNot (pTest (pCB fAll (pCons (pLc (jStr (pVar 0)) (hName 1) pYes (pOp fInSg (pVar 1) (pC (.str "0123456789"))) [1]) pNil)))))
    (pRet (pVal (pC (.bl false))))
    pNext)
    (pRet (pVal (pOrV (pOp fEq (pVar 0) (pC (.str "0"))) (pOp fNe (pIxO 0 (pC (.int 0))) (pC (.str "0")))))))
abbrev N_number_text : List Str := [("number" : Str)]
def T_number_text (g_figures_of : FA) : TSp :=
  (pRet (pVal (pIf (pTest (pOp fLt (pVar 0) (pC (.int 0)))) (pOp fAdd (pC (.str "-")) (pFrz (pCallA 1 g_figures_of (pCons (pUn fNeg (pVar 0)) pNil)))) (pFrz (pCallA 1 g_figures_of (pCons (pVar 0) pNil))))))
abbrev N_is_number_word : List Str := [("word" : Str)]
def T_is_number_word (g_is_figures : FA) : TSp :=
  (pSeq (pIfS (pTest (pOp fEq (pSlS (pVar 0) pNoPart (pPart (pC (.int 1)))) (pC (.str "-"))))
    (pRet (pVal (pAndV (pFrz (pCallA 1 g_is_figures (pCons (pSlS (pVar 0) (pPart (pC (.int 1))) pNoPart) pNil))) (pOp fNe (pVar 0) (pC (.str "-0"))))))
    pNext)
    (pRet (pCallA 1 g_is_figures (pCons (pVar 0) pNil))))
abbrev N_number_in : List Str := [("word" : Str)]
def T_number_in (g_number_of_figures : FA) : TSp :=
  (pRet (pVal (pIf (pTest (pOp fEq (pIxO 0 (pC (.int 0))) (pC (.str "-")))) (pUn fNeg (pFrz (pCallA 1 g_number_of_figures (pCons (pSlS (pVar 0) (pPart (pC (.int 1))) pNoPart) pNil)))) (pFrz (pCallA 1 g_number_of_figures (pCons (pVar 0) pNil))))))
abbrev N_wind_text : List Str := [("wind" : Str), ("word" : Str), ("slope" : Str)]
def T_wind_text (g_figures_of : FA) : TSp :=
  (pSeq (pAsg (pVar 0) (hTup 2 (hCons (hName 1) (hCons (hName 2) hNil))))
    (pRet (pVal (pOp fAdd (pIf (pTest (pOp fEq (pVar 1) (pC (.str "cut")))) (pC (.str "c")) (pC (.str "f"))) (pFrz (pCallA 1 g_figures_of (pCons (pVar 2) pNil)))))))
abbrev N_is_wind_word : List Str := [("word" : Str)]
def T_is_wind_word (g_is_figures : FA) : TSp :=
  (pRet (pVal (pAndV (pOp fInT (pSlS (pVar 0) pNoPart (pPart (pC (.int 1)))) (pTup (pCons (pC (.str "c")) (pCons (pC (.str "f")) pNil)))) (pFrz (pCallA 1 g_is_figures (pCons (pSlS (pVar 0) (pPart (pC (.int 1))) pNoPart) pNil))))))
abbrev N_wind_in : List Str := [("word" : Str)]
def T_wind_in (g_number_of_figures : FA) : TSp :=
  (pRet (pVal (pTup (pCons (pIf (pTest (pOp fEq (pIxO 0 (pC (.int 0))) (pC (.str "c")))) (pC (.str "cut")) (pC (.str "fill"))) (pCons (pFrz (pCallA 1 g_number_of_figures (pCons (pSlS (pVar 0) (pPart (pC (.int 1))) pNoPart) pNil))) pNil)))))
abbrev N_dune_text : List Str := [("dune" : Str), ("height" : Str)]
def T_dune_text (g_number_text : FA) : TSp :=
  (pRet (pVal (pJoin (pC (.str " ")) (pLc (jSeq (pVar 0)) (hName 1) pYes (pFrz (pCallA 1 g_number_text (pCons (pVar 1) pNil))) [1]))))
abbrev N_almanac_text : List Str := [("almanac" : Str), ("wind" : Str)]
def T_almanac_text (g_wind_text : FA) : TSp :=
  (pRet (pVal (pIf (pTest (pOp fGt (pLenO 0) (pC (.int 0)))) (pJoin (pC (.str " ")) (pLc (jSeq (pVar 0)) (hName 1) pYes (pFrz (pCallA 1 g_wind_text (pCons (pVar 1) pNil))) [1])) (pC (.str "-")))))
abbrev N_dune_in : List Str := [("text" : Str), ("words" : Str), ("at" : Str), ("word" : Str)]
def T_dune_in (g_is_number_word : FA) (g_number_in : FA) : TSp :=
  (pSeq (pSet 1 (pVal (pSplit (pVar 0) (pC (.str " ")))))
    (pSeq (pFor (jE (pCons (pVar 1) pNil)) (hTup 2 (hCons (hName 2) (hCons (hName 3) hNil)))
    (pIfS (pNot (pTest (pFrz (pCallA 1 g_is_number_word (pCons (pVar 3) pNil)))))
    pNever
    pNext))
    (pRet (pVal (pCB fTup (pCons (pLc (jSeq (pVar 1)) (hName 3) pYes (pFrz (pCallA 1 g_number_in (pCons (pVar 3) pNil))) [3]) pNil))))))
abbrev N_almanac_in : List Str := [("text" : Str), ("words" : Str), ("at" : Str), ("word" : Str)]
def T_almanac_in (g_is_wind_word : FA) (g_wind_in : FA) : TSp :=
  (pSeq (pIfS (pTest (pOp fEq (pVar 0) (pC (.str "-"))))
    (pRet (pLstO pNil))
    pNext)
    (pSeq (pSet 1 (pVal (pSplit (pVar 0) (pC (.str " ")))))
    (pSeq (pFor (jE (pCons (pVar 1) pNil)) (hTup 2 (hCons (hName 2) (hCons (hName 3) hNil)))
    (pIfS (pNot (pTest (pFrz (pCallA 1 g_is_wind_word (pCons (pVar 3) pNil)))))
    pNever
    pNext))
    (pRet (pLcO (jSeq (pVar 1)) (hName 3) pYes (pFrz (pCallA 1 g_wind_in (pCons (pVar 3) pNil))) [3])))))
abbrev N__law_is_figures : List Str := [("_law_sign" : Str), ("_law_letter" : Str)]
def T__law_is_figures : TSp :=
  (pSeq (pIfS (pOr (pTest (pOp fEq (pVar 0) (pC (.str "")))) (pNot (pTest (pCB fAll (pCons (pLc (jStr (pVar 0)) (hName 1) pYes (pOp fInSg (pVar 1) (pC (.str "0123456789"))) [1]) pNil)))))
    (pRet (pVal (pC (.bl false))))
    pNext)
    (pRet (pVal (pOp fEq (pCB fStrI (pCons (pCB fIntS (pCons (pVar 0) pNil)) pNil)) (pVar 0)))))
abbrev N__law_dune_of : List Str := [("_law_words" : Str), ("_law_found" : Str), ("_law_at" : Str), ("_law_sign" : Str), ("_law_bare" : Str)]
def T__law_dune_of (g__law_is_figures : FA) : TSp :=
  (pSeq (pSet 1 (pLstO pNil))
    (pSeq (pFor (jE (pCons (pSplit (pVar 0) (pC (.str " "))) pNil)) (hTup 2 (hCons (hName 2) (hCons (hName 3) hNil)))
    (pSeq (pSet 4 (pVal (pIf (pTest (pOp fEq (pSlS (pVar 3) pNoPart (pPart (pC (.int 1)))) (pC (.str "-")))) (pSlS (pVar 3) (pPart (pC (.int 1))) pNoPart) (pVar 3))))
    (pSeq (pIfS (pOr (pNot (pTest (pFrz (pCallA 1 g__law_is_figures (pCons (pVar 4) pNil))))) (pTest (pOp fEq (pVar 3) (pC (.str "-0")))))
    (pRet (pMove 2))
    pNext)
    (pAppend 1 (pCB fIntS (pCons (pVar 3) pNil))))))
    (pRet (pVal (pCB fTup (pCons (pVar 1) pNil))))))
abbrev N__law_winds_of : List Str := [("_law_words" : Str), ("_law_found" : Str), ("_law_at" : Str), ("_law_sign" : Str)]
def T__law_winds_of (g__law_is_figures : FA) : TSp :=
  (pSeq (pIfS (pTest (pOp fEq (pVar 0) (pC (.str "-"))))
    (pRet (pLstO pNil))
    pNext)
    (pSeq (pSet 1 (pLstO pNil))
    (pSeq (pFor (jE (pCons (pSplit (pVar 0) (pC (.str " "))) pNil)) (hTup 2 (hCons (hName 2) (hCons (hName 3) hNil)))
    (pSeq (pIfS (pOr (pTest (pOp fNotInT (pSlS (pVar 3) pNoPart (pPart (pC (.int 1)))) (pTup (pCons (pC (.str "c")) (pCons (pC (.str "f")) pNil))))) (pNot (pTest (pFrz (pCallA 1 g__law_is_figures (pCons (pSlS (pVar 3) (pPart (pC (.int 1))) pNoPart) pNil))))))
    (pRet (pMove 2))
    pNext)
    (pAppend 1 (pTup (pCons (pIf (pTest (pOp fEq (pIxO 3 (pC (.int 0))) (pC (.str "c")))) (pC (.str "cut")) (pC (.str "fill"))) (pCons (pCB fIntS (pCons (pSlS (pVar 3) (pPart (pC (.int 1))) pNoPart) pNil)) pNil))))))
    (pRet (pMove 1)))))
abbrev N__law_read : List Str := [("_law_words" : Str), ("_law_is_dune_text" : Str), ("_law_found" : Str), ("_law_caught" : Str), ("error" : Str)]
def T__law_read (g_dune_in : FA) (g_almanac_in : FA) (gx_dune_in : FX) (gx_almanac_in : FX) : TSp :=
  (pSeq (pAsg (pTup (pCons (pC .non) (pCons (pC .non) pNil))) (hTup 2 (hCons (hName 2) (hCons (hName 3) hNil))))
    (pSeq (pTry 4 3 [("BadText" : Str)]
    (xOr (pSet 2 (pVal (pIf (pTest (pVar 1)) (pFrz (pCallA 1 g_dune_in (pCons (pVar 0) pNil))) (pFrz (pCallA 1 g_almanac_in (pCons (pVar 0) pNil))))))
    (xE (xIf (pTest (pVar 1)) (xCall 1 gx_dune_in (pCons (pVar 0) pNil)) (xCall 1 gx_almanac_in (pCons (pVar 0) pNil))))))
    (pRet (pVal (pIf (pTest (pOp fIsN (pVar 3) (pC .non))) (pVar 2) (pIf (pTest (pIsX [("BadText" : Str)] [("ValueError" : Str)] (pVar 3))) (pXf [("BadText" : Str)] "at" (pVar 3)) (pC .non)))))))
abbrev N__law_spoilt : List Str := [("_law_box_here" : Str), ("_law_words" : Str), ("_law_at" : Str), ("_law_way" : Str), ("_law_letter" : Str)]
def T__law_spoilt (g__law_take : FB) (g__law_of : FB) : TSp :=
  (pSeq (pPar3 2 3 4 (pCons (pFrz (pCallB 0 2 g__law_take (pCons (pLenO 1) pNil))) (pCons (pFrz (pCallB 0 2 g__law_take (pCons (pC (.int 4)) pNil))) (pCons (pFrz (pCallB 0 2 g__law_of (pCons (pC (.str "0123456789 -cf+_.a")) pNil))) pNil))))
    (pSeq (pIfS (pTest (pOp fEq (pVar 3) (pC (.int 0))))
    (pRet (pVal (pOp fAdd (pSlS (pVar 1) pNoPart (pPart (pVar 2))) (pSlS (pVar 1) (pPart (pOp fAdd (pVar 2) (pC (.int 1)))) pNoPart))))
    pNext)
    (pSeq (pIfS (pTest (pOp fEq (pVar 3) (pC (.int 1))))
    (pRet (pVal (pOp fAdd (pOp fAdd (pSlS (pVar 1) pNoPart (pPart (pVar 2))) (pIxO 1 (pVar 2))) (pSlS (pVar 1) (pPart (pVar 2)) pNoPart))))
    pNext)
    (pRet (pVal (pOp fAdd (pOp fAdd (pSlS (pVar 1) pNoPart (pPart (pVar 2))) (pVar 4)) (pSlS (pVar 1) (pPart (pOp fAdd (pVar 2) (pCB fInt1 (pCons (pOp fEq (pVar 3) (pC (.int 2))) pNil)))) pNoPart)))))))
abbrev N_law : List Str := [("_law_script" : Str), ("_law_odd" : Str), ("_law_k" : Str), ("_law_box_here" : Str), ("_law_hill" : Str), ("_law_winds_here" : Str), ("_law_level" : Str), ("_law_texts" : Str), ("_law_sign" : Str), ("_law_slope_here" : Str), ("_law_told" : Str), ("_law_words" : Str), ("_law_some" : Str), ("_law_due" : Str)]
def T_law_1 : TSp :=
  (pSet 1 (pVal (pLst (pCons (pC (.str "")) (pCons (pC (.str " ")) (pCons (pC (.str "-")) (pCons (pC (.str "0")) (pCons (pC (.str "-0")) (pCons (pC (.str "00")) (pCons (pC (.str "01")) (pCons (pC (.str "+1")) (pCons (pC (.str "1_0")) (pCons (pC (.str "1 ")) (pCons (pC (.str " 1")) (pCons (pC (.str "1  2")) (pCons (pC (.str "--1")) (pCons (pC (.str "- 1")) (pCons (pC (.str "1.0")) (pCons (pC (.str "c")) (pCons (pC (.str "f")) (pCons (pC (.str "c0")) pNil)))))))))))))))))))))
def T_law_2 : TSp :=
  (pSet 1 (pVal (pOp fAdd (pVar 1) (pLst (pCons (pC (.str "f01")) (pCons (pC (.str "c-1")) (pCons (pC (.str "c3 f2")) (pCons (pC (.str "c3  f2")) (pCons (pC (.str "f2 -")) (pCons (pC (.str "- c3")) (pCons (pC (.str "C3")) (pCons (pC (.str "cut 3")) (pCons (pC (.str "c3,f2")) (pCons (pC (.str "1\n")) (pCons (pC (.str "c3\n")) pNil)))))))))))))))
def T_law_3 : TSp :=
  (pSet 1 (pVal (pOp fAdd (pVar 1) (pLst (pCons (pC (.str "c3 f")) (pCons (pC (.str "x3")) (pCons (pC (.str "12 c3")) pNil)))))))
def T_law_4_1 (g__law_box : FA) : TSp :=
  (pSet 3 (pCallA 2 g__law_box (pCons (pVar 0) (pCons (pVar 2) pNil))))
def T_law_4_2 (g__law_dune : FB) (g__law_winds : FB) : TSp :=
  (pPar 4 5 (pCons (pFrz (pCallB 3 2 g__law_dune (pCons (pC (.int 8)) pNil))) (pCons (pFrz (pCallB 3 2 g__law_winds (pCons (pC (.int 6)) pNil))) pNil)))
def T_law_4_3 : TSp :=
  (pSet 7 (pLstO (pCons (pJoin (pC (.str " ")) (pLc (jSeq (pVar 4)) (hName 6) pYes (pCB fStrI (pCons (pVar 6) pNil)) [6])) pNil)))
def T_law_4_4 : TSp :=
  (pAppend 7 (pIf (pTest (pOp fNe (pVar 5) (pLst pNil))) (pJoin (pC (.str " ")) (pLc (jSeq (pVar 5)) (hTup 2 (hCons (hName 8) (hCons (hName 9) hNil))) pYes (pOp fAdd (pIxO 8 (pC (.int 0))) (pCB fStrI (pCons (pVar 9) pNil))) [8, 9])) (pC (.str "-"))))
def T_law_4_5 (g_dune_text : FA) (g_almanac_text : FA) : TSp :=
  (pSet 10 (pVal (pLst (pCons (pFrz (pCallA 1 g_dune_text (pCons (pVar 4) pNil))) (pCons (pFrz (pCallA 1 g_almanac_text (pCons (pVar 5) pNil))) (pCons (pFrz (pCallK 1 1 g_dune_text [0] (pCons (pCB fLst (pCons (pVar 4) pNil)) pNil))) (pCons (pFrz (pCallK 1 1 g_almanac_text [0] (pCons (pCB fTup (pCons (pVar 5) pNil)) pNil))) pNil)))))))
def T_law_4_6_1 : TSp :=
  (pRet (pVal (pC (.bl false))))
def T_law_4_6 (g__law_same : FA) : TSp :=
  (pIfS (pNot (pTest (pFrz (pCallA 2 g__law_same (pCons (pVar 10) (pCons (pOp fRep (pVar 7) (pC (.int 2))) pNil))))))
    T_law_4_6_1
    pNext)
def T_law_4_7_1 : TSp :=
  (pRet (pVal (pC (.bl false))))
def T_law_4_7 (g_dune_in : FA) (g_almanac_in : FA) (g__law_same : FA) : TSp :=
  (pIfS (pNot (pTest (pFrz (pCallA 2 g__law_same (pCons (pLst (pCons (pFrz (pCallK 1 1 g_dune_in [0] (pCons (pIxO 7 (pC (.int 0))) pNil))) (pCons (pFrz (pCallK 1 1 g_almanac_in [0] (pCons (pIxO 7 (pC (.int 1))) pNil))) pNil))) (pCons (pLst (pCons (pVar 4) (pCons (pVar 5) pNil))) pNil))))))
    T_law_4_7_1
    pNext)
def T_law_4_8 (g__law_spoilt : FB) : TSp :=
  (pSet 12 (pVal (pOp fAdd (pOp fAdd (pVar 1) (pVar 7)) (pLc (jSeq (pOp fRep (pVar 7) (pC (.int 12)))) (hName 11) pYes (pFrz (pCallB 3 2 g__law_spoilt (pCons (pVar 11) pNil))) [11]))))
def T_law_4_9_1 (g__law_dune_of : FA) (g__law_winds_of : FA) : TSp :=
  (pSet 13 (pVal (pLst (pCons (pFrz (pCallA 1 g__law_dune_of (pCons (pVar 11) pNil))) (pCons (pFrz (pCallA 1 g__law_winds_of (pCons (pVar 11) pNil))) pNil)))))
def T_law_4_9_2_1 : TSp :=
  (pRet (pVal (pC (.bl false))))
def T_law_4_9_2 (g__law_same : FA) (g__law_read : FA) : TSp :=
  (pIfS (pNot (pTest (pFrz (pCallA 2 g__law_same (pCons (pLst (pCons (pFrz (pCallA 2 g__law_read (pCons (pVar 11) (pCons (pC (.bl true)) pNil)))) (pCons (pFrz (pCallA 2 g__law_read (pCons (pVar 11) (pCons (pC (.bl false)) pNil)))) pNil))) (pCons (pVar 13) pNil))))))
    T_law_4_9_2_1
    pNext)
def T_law_4_9 (g__law_same : FA) (g__law_dune_of : FA) (g__law_winds_of : FA) (g__law_read : FA) : TSp :=
  (pFor (jSeq (pVar 12)) (hName 11)
    (pSeq (T_law_4_9_1 g__law_dune_of g__law_winds_of)
    (T_law_4_9_2 g__law_same g__law_read)))
def T_law_4 (g_dune_text : FA) (g_almanac_text : FA) (g_dune_in : FA) (g_almanac_in : FA) (g__law_box : FA) (g__law_same : FA) (g__law_dune : FB) (g__law_winds : FB) (g__law_dune_of : FA) (g__law_winds_of : FA) (g__law_read : FA) (g__law_spoilt : FB) : TSp :=
  (pFor (jRng1 (pCons (pOp fAdd (pC (.int 1)) (pCB fMin2 (pCons (pC (.int 2)) (pCons (pLenO 0) pNil)))) pNil)) (hName 2)
    (pSeq (T_law_4_1 g__law_box)
    (pSeq (T_law_4_2 g__law_dune g__law_winds)
    (pSeq T_law_4_3
    (pSeq T_law_4_4
    (pSeq (T_law_4_5 g_dune_text g_almanac_text)
    (pSeq (T_law_4_6 g__law_same)
    (pSeq (T_law_4_7 g_dune_in g_almanac_in g__law_same)
    (pSeq (T_law_4_8 g__law_spoilt)
    (T_law_4_9 g__law_same g__law_dune_of g__law_winds_of g__law_read))))))))))
def T_law_5 : TSp :=
  (pRet (pVal (pC (.bl true))))
def T_law (g_dune_text : FA) (g_almanac_text : FA) (g_dune_in : FA) (g_almanac_in : FA) (g__law_box : FA) (g__law_same : FA) (g__law_dune : FB) (g__law_winds : FB) (g__law_dune_of : FA) (g__law_winds_of : FA) (g__law_read : FA) (g__law_spoilt : FB) : TSp :=
  (pSeq T_law_1
    (pSeq T_law_2
    (pSeq T_law_3
    (pSeq (T_law_4 g_dune_text g_almanac_text g_dune_in g_almanac_in g__law_box g__law_same g__law_dune g__law_winds g__law_dune_of g__law_winds_of g__law_read g__law_spoilt)
    T_law_5))))
def TX_dune_in (g_is_number_word : FA) (g_number_in : FA) (ok_BadText : D → Prop) : TXs :=
  (xSeq (xOk (pSet 1 (pVal (pSplit (pVar 0) (pC (.str " "))))))
    (xSeq (xFor (jE (pCons (pVar 1) pNil)) (hTup 2 (hCons (hName 2) (hCons (hName 3) hNil)))
    (xIfS (pNot (pTest (pFrz (pCallA 1 g_is_number_word (pCons (pVar 3) pNil)))))
    (xRaise "BadText" ok_BadText (pCons (pVar 2) pNil))
    xNext))
    (xOk (pRet (pVal (pCB fTup (pCons (pLc (jSeq (pVar 1)) (hName 3) pYes (pFrz (pCallA 1 g_number_in (pCons (pVar 3) pNil))) [3]) pNil)))))))
def TX_almanac_in (g_is_wind_word : FA) (g_wind_in : FA) (ok_BadText : D → Prop) : TXs :=
  (xSeq (xOk (pIfS (pTest (pOp fEq (pVar 0) (pC (.str "-"))))
    (pRet (pLstO pNil))
    pNext))
    (xSeq (xOk (pSet 1 (pVal (pSplit (pVar 0) (pC (.str " "))))))
    (xSeq (xFor (jE (pCons (pVar 1) pNil)) (hTup 2 (hCons (hName 2) (hCons (hName 3) hNil)))
    (xIfS (pNot (pTest (pFrz (pCallA 1 g_is_wind_word (pCons (pVar 3) pNil)))))
    (xRaise "BadText" ok_BadText (pCons (pVar 2) pNil))
    xNext))
    (xOk (pRet (pLcO (jSeq (pVar 1)) (hName 3) pYes (pFrz (pCallA 1 g_wind_in (pCons (pVar 3) pNil))) [3]))))))
open PySem.NumText (digitsVal AllDigits)
open TL (numL)
theorem lit_e : ("" : Str) = Sx [] := by decide +kernel
theorem lit_0 : ("0" : Str) = Sx [48] := by decide +kernel
theorem lit_m : ("-" : Str) = Sx [45] := by decide +kernel
theorem lit_m0 : ("-0" : Str) = Sx [45, 48] := by decide +kernel
theorem lit_c : ("c" : Str) = Sx [99] := by decide +kernel
theorem lit_f : ("f" : Str) = Sx [102] := by decide +kernel
theorem lit_F : ("0123456789" : Str).cps.toList = [48, 49, 50, 51, 52, 53, 54, 55, 56, 57] := by decide +kernel
theorem sh1 {c : Nat} (h : c < 128) : (D.str (Sx [c])).sh := sh_sx fun x hx => by rw [List.mem_singleton.mp hx]; exact h
theorem sh0 : (D.str (Sx [])).sh := sh_sx fun x hx => (by cases hx)
theorem in_figs (c : Nat) : decide (c ∈ ("0123456789" : Str).cps.toList) = isDig c := by
  rw [lit_F]
  unfold isDig
  by_cases h : 48 ≤ c ∧ c ≤ 57
  · rw [decide_eq_true h.1, decide_eq_true h.2]
    refine decide_eq_true ?_
    simp only [List.mem_cons, List.not_mem_nil, or_false]
    omega
  · have : (decide (48 ≤ c) && decide (c ≤ 57)) = false := by
      cases q : (decide (48 ≤ c) && decide (c ≤ 57)) with
      | false => rfl
      | true => rw [Bool.and_eq_true, decide_eq_true_iff, decide_eq_true_iff] at q; exact absurd q h
    rw [this]
    refine decide_eq_false fun hm => h ?_
    simp only [List.mem_cons, List.not_mem_nil, or_false] at hm
    omega
theorem szl {n : Nat} (h : n ≤ 1000) : n ≤ sizeLine := sl1000 h
theorem rg0 {n : Nat} (h : n ≤ 1000) : RgC (n : Int) (n : Int) 60 0 := by
  have e : Builtin.Range.rangeSize (n : Int) (n : Int) 60 = 0 := by
    unfold Builtin.Range.rangeSize
    rw [if_pos (by decide), if_neg (by omega)]
  refine ⟨by decide, by decide, ?_, e⟩
  unfold Builtin.Range.small
  rw [e]
  have f : Builtin.Range.rangeFitsLong (n : Int) = true := by
    unfold Builtin.Range.rangeFitsLong
    simp only [Bool.and_eq_true, decide_eq_true_iff]
    omega
  rw [f, (by decide : ((0 : Int) == 0) = true), Bool.true_or]; decide
def g_figures_of : FA := fun ds C => ∃ n : Nat, ds = [.int n] ∧ n < 10 ^ 20 ∧ C (.val (.str (Sx (numL n))))
theorem rd_figures_of : ∀ ds C, ds.length = 1 → g_figures_of ds C → T_figures_of (EA C) (startA N_figures_of ds) := by
  rintro ds C - ⟨n, rfl, hn, hC⟩
  refine ⟨by show (0 : Nat) ≤ sizeLine; decide, fun a => ?_⟩
  refine ⟨fun _ ρ => ρ = [some (.val (.int n)), some (.own a []), some (.val (.int n)), none], ⟨0, rfl⟩, fun m ρ e => ?_⟩
  subst e
  refine ifF (decide_eq_false (by omega)) ?_
  have hlog : ((n : Int)).natAbs.log2 < 1920 := by
    have : (n : Int).natAbs = n := rfl
    rw [this]
    by_cases h0 : n = 0
    · subst h0; decide
    · have h2 : n.log2 < 100 := (Nat.log2_lt h0).mpr (Nat.lt_of_lt_of_le hn (by decide))
      omega
  refine ⟨hlog, _, rfl, by show (0 : Nat) < sizeLine; decide, ?_⟩
  have e1 : (toString ((n : Nat) : Int) : Str) = Sx (numL n) := str_num n
  have hlen : (numL n).length ≤ 20 := TL.numL_len (by decide) hn
  refine ⟨[(toString ((n : Nat) : Int) : Str)], rfl, ?_, ?_⟩
  · show (toString ((n : Nat) : Int) : Str).length + 0 + 1 * _ ≤ 16777216
    rw [e1, Sx_len]
    have : ("" : Str).length = 0 := by decide +kernel
    rw [this]; omega
  · have e2 : Txt.join "" [(toString ((n : Nat) : Int) : Str)] = Sx (numL n) := by
      rw [TL.join_eq, e1]
      exact sx_of (by show TL.tl (Str.join _ [Sx (numL n)]) = _; rw [TL.tl_join]; rfl)
    rw [e2]; exact hC
def g_number_of_figures : FA := fun ds C => ∃ l, ds = [.str (Sx l)] ∧ AllDigits l ∧ l.length ≤ 59 ∧ C (.val (.int ((digitsVal l : Nat) : Int)))
theorem rd_number_of_figures : ∀ ds C, ds.length = 1 → g_number_of_figures ds C → T_number_of_figures (EA C) (startA N_number_of_figures ds) := by
  rintro ds C - ⟨l, rfl, hd, hl, hC⟩
  have hz : (Sx l).length ≤ sizeLine := by rw [Sx_len]; exact szl (by omega)
  have e60 : (((Sx l).length : Nat) : Int) % 60 = ((l.length : Nat) : Int) := by rw [Sx_len]; omega
  refine ⟨hz, (by show (0 : Int) < 60; decide), ?_⟩
  dsimp only
  rw [e60]
  refine ⟨hz, ?_⟩
  rw [cut_to, List.take_length]
  have e1 : ("0" : Str) ++ Sx l = Sx (48 :: l) := by rw [lit_0, Sx_app]; rfl
  have l0 : ("0" : Str).length = 1 := by decide +kernel
  refine ⟨by rw [l0, Sx_len]; exact szl (by omega), ?_⟩
  rw [e1]
  have hd' : AllDigits (48 :: l) := fun c hc => by
    rcases List.mem_cons.mp hc with e | hc
    · rw [e]; omega
    · exact hd c hc
  refine ⟨((digitsVal l : Nat) : Int), ?_, by rw [Sx_len]; show l.length + 1 ≤ 640; omega, ?_⟩
  · rw [int_figs hd' (by simp) (by show l.length + 1 ≤ 600; omega)]
    rfl
  · exact ⟨hz, 0, by rw [Sx_len]; exact rg0 (by omega), hC⟩
def g_is_figures : FA := fun ds C => ∃ l, ds = [.str (Sx l)] ∧ (∀ c ∈ l, c < 128) ∧ l.length ≤ 300 ∧ C (.val (.bl (figB l)))
theorem all_figs {vs : List Nat} {te : TEp} {g : TGp} {ρ : Ro} {Q : List D → Ro → Prop} (l : List Nat) (hl : l.length ≤ 300) (he : ∀ c, ElemOk vs g te ρ (.str ⟨#[c]⟩) (.bl (isDig c))) (hQ : Q ((l.map isDig).map D.bl) ρ) : lcW vs g pYes te Q (signsD (Sx l)) [] ρ :=
  lc_mp l (fun c => .str ⟨#[c]⟩) (fun c => .bl (isDig c)) rfl (fun c _ => he c) (by omega) (by rw [List.map_map] at hQ; exact hQ)
theorem rd_is_figures : ∀ ds C, ds.length = 1 → g_is_figures ds C → T_is_figures (EA C) (startA N_is_figures ds) := by
  rintro ds C - ⟨l, rfl, ha, hl, hC⟩
  have e1 : (D.str (Sx l)).eqv (.str "") = decide (l = []) := by rw [lit_e, eqv_sx]
  refine ⟨sh_sx ha, by rw [lit_e]; exact sh0, ?_⟩
  rw [e1]
  refine ifB (fun h => ?_) (fun h => ?_)
  · have : figB l = false := by rw [of_decide_eq_true h]; rfl
    rw [← this]; exact hC
  have hne := of_decide_eq_false h
  refine all_figs l hl (fun c K hK => ⟨c, rfl, by rw [in_figs]; exact hK _ rfl⟩) ?_
  refine ⟨_, rfl, ?_⟩
  have e2 : (l.map isDig).all id = l.all isDig := by rw [List.all_map]; rfl
  rw [e2]
  refine ifB (fun h => ?_) (fun h => ?_)
  · have h : (!l.all isDig) = true := h
    have : figB l = false := by unfold figB; rw [(by simpa using h : l.all isDig = false)]; simp
    rw [← this]; exact hC
  have h : (!l.all isDig) = false := h
  have hd : l.all isDig = true := by simpa using h
  refine ⟨sh_sx ha, by rw [lit_0]; exact sh1 (by decide), ?_⟩
  have e3 : (D.str (Sx l)).eqv (.str "0") = decide (l = [48]) := by rw [lit_0, eqv_sx]
  rw [e3]
  have ef : figB l = (decide (l = [48]) || decide (l.headD 0 ≠ 48)) := by unfold figB; rw [decide_eq_true hne, hd]; rfl
  obtain ⟨c, r, rfl⟩ : ∃ c r, l = c :: r := by cases l with
    | nil => exact absurd rfl hne
    | cons c r => exact ⟨c, r, rfl⟩
  refine ifB (fun h => ?_) (fun h => ?_)
  · rw [ef, h] at hC; exact hC
  · refine ⟨by rw [Sx_len]; exact szl (by omega), c, atI_zero _ _, ?_⟩
    have hc : c < 128 := ha c (by simp)
    refine ⟨sh1 hc, by rw [lit_0]; exact sh1 (by decide), ?_⟩
    have e4 : (!(D.str ⟨#[c]⟩).eqv (.str "0")) = decide (c ≠ 48) := by
      rw [lit_0]
      show (!(D.str (Sx [c])).eqv (.str (Sx [48]))) = _
      rw [eqv_sx]
      by_cases q : c = 48
      · subst q; rfl
      · have : ¬ ([c] = [48]) := fun e => q (List.cons.inj e).1
        rw [decide_eq_false this, decide_eq_true q]; rfl
    rw [ef, h] at hC
    rw [e4]; exact hC
def g_number_text : FA := fun ds C => ∃ i : Int, ds = [.int i] ∧ i.natAbs < 10 ^ 20 ∧ C (.val (.str (Sx (numT i))))
theorem rd_number_text : ∀ ds C, ds.length = 1 → g_number_text ds C → T_number_text g_figures_of (EA C) (startA N_number_text ds) := by
  rintro ds C - ⟨i, rfl, hi, hC⟩
  refine ifB (fun h => ?_) (fun h => ?_)
  · have h : i < 0 := of_decide_eq_true h
    have e : (-i) = (((-i).toNat : Nat) : Int) := by omega
    have hl : (numL (-i).toNat).length ≤ 20 := TL.numL_len (by decide) (by omega)
    refine ⟨rfl, (-i).toNat, by show [D.int (-i)] = _; rw [← e], by omega, ?_⟩
    have e1 : ("-" : Str) ++ Sx (numL (-i).toNat) = Sx (45 :: numL (-i).toNat) := by rw [lit_m, Sx_app]; rfl
    have l0 : ("-" : Str).length = 1 := by decide +kernel
    refine ⟨by rw [l0, Sx_len]; exact szl (by omega), ?_⟩
    have e2 : numT i = 45 :: numL (-i).toNat := if_pos h
    rw [e2] at hC
    show C (.val (.str (("-" : Str) ++ Sx (numL (-i).toNat))))
    rw [e1]; exact hC
  · have h : ¬ i < 0 := of_decide_eq_false h
    have e : i = ((i.toNat : Nat) : Int) := by omega
    have e2 : numT i = numL i.toNat := if_neg h
    rw [e2] at hC
    exact ⟨rfl, i.toNat, by show [D.int i] = _; rw [← e], by omega, hC⟩
def g_is_number_word : FA := fun ds C => ∃ l, ds = [.str (Sx l)] ∧ (∀ c ∈ l, c < 128) ∧ l.length ≤ 300 ∧ C (.val (.bl (numB l)))
theorem take1_45 {l : List Nat} : (l.take 1 = [45]) ↔ ∃ r, l = 45 :: r := by
  cases l with
  | nil => simp
  | cons c r =>
    constructor
    · intro h
      have h : [c] = [45] := h
      exact ⟨r, by rw [(List.cons.inj h).1]⟩
    · rintro ⟨r', e⟩
      have := (List.cons.inj e).1
      subst this
      rfl
theorem numB_45 (r : List Nat) : numB (45 :: r) = (figB r && decide (r ≠ [48])) := rfl
theorem numB_no {l : List Nat} (h : ¬ ∃ r, l = 45 :: r) : numB l = figB l := by
  unfold numB
  split
  · rename_i r; exact absurd ⟨r, rfl⟩ h
  · rfl
theorem valN_no {l : List Nat} (h : ¬ ∃ r, l = 45 :: r) : valN l = ((digitsVal l : Nat) : Int) := by
  unfold valN
  split
  · rename_i r; exact absurd ⟨r, rfl⟩ h
  · rfl
theorem rd_is_number_word : ∀ ds C, ds.length = 1 → g_is_number_word ds C → T_is_number_word g_is_figures (EA C) (startA N_is_number_word ds) := by
  rintro ds C - ⟨l, rfl, ha, hl, hC⟩
  have hz : (Sx l).length ≤ sizeLine := by rw [Sx_len]; exact szl (by omega)
  refine ⟨hz, ?_⟩
  rw [show (1 : Int) = ((1 : Nat) : Int) from rfl, cut_to]
  refine ⟨sh_sx fun c hc => ha c (List.mem_of_mem_take hc), by rw [lit_m]; exact sh1 (by decide), ?_⟩
  rw [lit_m, eqv_sx]
  refine ifB (fun h => ?_) (fun h => ?_)
  · obtain ⟨r, rfl⟩ := take1_45.mp (of_decide_eq_true h)
    refine ⟨hz, ?_⟩
    rw [cut_from]
    refine ⟨rfl, r, rfl, fun c hc => ha c (by simp [hc]), by have : r.length + 1 ≤ 300 := hl; omega, ?_⟩
    rw [numB_45] at hC
    refine ifB (fun h => ?_) (fun h => ?_)
    · refine ⟨sh_sx ha, by rw [lit_m0]; exact sh_sx fun c hc => (by simp at hc; omega), ?_⟩
      have e : (!(D.str (Sx (45 :: r))).eqv (.str "-0")) = decide (r ≠ [48]) := by
        rw [lit_m0, eqv_sx]
        by_cases q : r = [48]
        · subst q; rfl
        · rw [decide_eq_true q, decide_eq_false (fun z => q (List.cons.inj z).2)]; rfl
      rw [e]
      rw [h, Bool.true_and] at hC
      exact hC
    · rw [h, Bool.false_and] at hC; exact hC
  · have h : ¬ ∃ r, l = 45 :: r := fun z => of_decide_eq_false h (take1_45.mpr z)
    rw [numB_no h] at hC
    exact ⟨rfl, l, rfl, ha, hl, hC⟩
theorem first_eq {c d : Nat} {r : List Nat} : ((D.str ⟨#[c]⟩).eqv (.str (Sx [d]))) = decide (c = d) := by
  show ((D.str (Sx [c])).eqv (.str (Sx [d]))) = _
  rw [eqv_sx]
  by_cases q : c = d
  · subst q; rw [decide_eq_true rfl, decide_eq_true rfl]
  · rw [decide_eq_false q, decide_eq_false (fun e => q (List.cons.inj e).1)]
def g_number_in : FA := fun ds C => ∃ l, ds = [.str (Sx l)] ∧ (∀ c ∈ l, c < 128) ∧ numB l = true ∧ l.length ≤ 59 ∧ C (.val (.int (valN l)))
theorem numB_ne {l : List Nat} (h : numB l = true) : l ≠ [] := fun e => by subst e; cases h
theorem rd_number_in : ∀ ds C, ds.length = 1 → g_number_in ds C → T_number_in g_number_of_figures (EA C) (startA N_number_in ds) := by
  rintro ds C - ⟨l, rfl, ha, hn, hl, hC⟩
  have hz : (Sx l).length ≤ sizeLine := by rw [Sx_len]; exact szl (by omega)
  obtain ⟨c, r, rfl⟩ : ∃ c r, l = c :: r := by cases l with
    | nil => exact absurd rfl (numB_ne hn)
    | cons c r => exact ⟨c, r, rfl⟩
  refine ⟨hz, c, atI_zero _ _, sh1 (ha c (by simp)), by rw [lit_m]; exact sh1 (by decide), ?_⟩
  rw [lit_m, first_eq (r := r)]
  refine ifB (fun h => ?_) (fun h => ?_)
  · have h := of_decide_eq_true h
    subst h
    rw [numB_45, Bool.and_eq_true] at hn
    refine ⟨hz, ?_⟩
    rw [show (1 : Int) = ((1 : Nat) : Int) from rfl, cut_from]
    exact ⟨rfl, r, rfl, (fig_digs hn.1).1, by have : r.length + 1 ≤ 59 := hl; omega, hC⟩
  · have h := of_decide_eq_false h
    have hno : ¬ ∃ r', c :: r = 45 :: r' := fun ⟨r', e⟩ => h (List.cons.inj e).1
    rw [numB_no hno] at hn
    rw [valN_no hno] at hC
    exact ⟨rfl, c :: r, rfl, (fig_digs hn).1, hl, hC⟩
def g_wind_text : FA := fun ds C => ∃ w : Wd, ds = [windD w.1 w.2] ∧ 0 ≤ w.2 ∧ w.2 < 10 ^ 20 ∧ C (.val (.str (Sx (winT w))))
theorem rd_wind_text : ∀ ds C, ds.length = 1 → g_wind_text ds C → T_wind_text g_figures_of (EA C) (startA N_wind_text ds) := by
  rintro ds C - ⟨⟨k, s⟩, rfl, h0, h1, hC⟩
  have h0 : 0 ≤ s := h0
  have h1 : s < 10 ^ 20 := h1
  have e : s = ((s.toNat : Nat) : Int) := by omega
  have hl : (numL s.toNat).length ≤ 20 := TL.numL_len (by decide) (by omega)
  have lc : ("c" : Str).length = 1 := by decide +kernel
  have lf : ("f" : Str).length = 1 := by decide +kernel
  refine ⟨rfl, rfl, sh_word k, sh_cut, ?_⟩
  cases k with
  | true =>
    refine ifT (by show (D.str (wordS true)).eqv (D.str "cut") = true; decide +kernel) ⟨rfl, s.toNat, by show [D.int s] = _; rw [← e], by omega, by rw [lc, Sx_len]; exact szl (by omega), ?_⟩
    have e1 : ("c" : Str) ++ Sx (numL s.toNat) = Sx (99 :: numL s.toNat) := by rw [lit_c, Sx_app]; rfl
    show C (.val (.str (("c" : Str) ++ Sx (numL s.toNat))))
    rw [e1]; exact hC
  | false =>
    refine ifF (by show (D.str (wordS false)).eqv (D.str "cut") = false; decide +kernel) ⟨rfl, s.toNat, by show [D.int s] = _; rw [← e], by omega, by rw [lf, Sx_len]; exact szl (by omega), ?_⟩
    have e1 : ("f" : Str) ++ Sx (numL s.toNat) = Sx (102 :: numL s.toNat) := by rw [lit_f, Sx_app]; rfl
    show C (.val (.str (("f" : Str) ++ Sx (numL s.toNat))))
    rw [e1]; exact hC
def g_is_wind_word : FA := fun ds C => ∃ l, ds = [.str (Sx l)] ∧ (∀ c ∈ l, c < 128) ∧ l.length ≤ 300 ∧ C (.val (.bl (winB l)))
theorem sh_cf2 : (D.tup [D.str "c", D.str "f"]).sh := by unfold D.sh; decide +kernel
theorem take1_cf (l : List Nat) : ([D.str "c", D.str "f"].any fun z => z.eqv (.str (Sx (l.take 1)))) = (decide (l.take 1 = [99]) || decide (l.take 1 = [102])) := by
  rw [List.any_cons, List.any_cons, List.any_nil, Bool.or_false, lit_c, lit_f, eqv_sx, eqv_sx]
  congr 1 <;> exact decide_eq_decide.mpr ⟨fun e => e.symm, fun e => e.symm⟩
theorem cf_cons (c : Nat) (r : List Nat) : (decide ((c :: r).take 1 = [99]) || decide ((c :: r).take 1 = [102])) = (decide (c = 99) || decide (c = 102)) := by
  have key : ∀ d, decide ((c :: r).take 1 = [d]) = decide (c = d) := fun d => decide_eq_decide.mpr ⟨fun e => (List.cons.inj e).1, fun e => by rw [e]; rfl⟩
  rw [key, key]
theorem rd_is_wind_word : ∀ ds C, ds.length = 1 → g_is_wind_word ds C → T_is_wind_word g_is_figures (EA C) (startA N_is_wind_word ds) := by
  rintro ds C - ⟨l, rfl, ha, hl, hC⟩
  have hz : (Sx l).length ≤ sizeLine := by rw [Sx_len]; exact szl (by omega)
  refine ⟨hz, ?_⟩
  rw [show (1 : Int) = ((1 : Nat) : Int) from rfl, cut_to]
  refine ⟨by show (2 : Nat) ≤ sizeLine; decide, sh_sx fun c hc => ha c (List.mem_of_mem_take hc), sh_cf2, ?_⟩
  rw [take1_cf]
  cases l with
  | nil => exact hC
  | cons c r =>
    rw [cf_cons]
    have e : winB (c :: r) = ((decide (c = 99) || decide (c = 102)) && figB r) := rfl
    rw [e] at hC
    refine ifB (fun h => ?_) (fun h => ?_)
    · refine ⟨hz, ?_⟩
      rw [cut_from]
      rw [h, Bool.true_and] at hC
      exact ⟨rfl, r, rfl, fun c hc => ha c (by simp [hc]), by have : r.length + 1 ≤ 300 := hl; omega, hC⟩
    · rw [h, Bool.false_and] at hC; exact hC
def g_wind_in : FA := fun ds C => ∃ l, ds = [.str (Sx l)] ∧ (∀ c ∈ l, c < 128) ∧ winB l = true ∧ l.length ≤ 59 ∧ C (.val (windD (valW l).1 (valW l).2))
theorem rd_wind_in : ∀ ds C, ds.length = 1 → g_wind_in ds C → T_wind_in g_number_of_figures (EA C) (startA N_wind_in ds) := by
  rintro ds C - ⟨l, rfl, ha, hn, hl, hC⟩
  have hz : (Sx l).length ≤ sizeLine := by rw [Sx_len]; exact szl (by omega)
  obtain ⟨c, r, rfl⟩ : ∃ c r, l = c :: r := by cases l with
    | nil => cases hn
    | cons c r => exact ⟨c, r, rfl⟩
  have hn : ((decide (c = 99) || decide (c = 102)) && figB r) = true := hn
  rw [Bool.and_eq_true] at hn
  refine ⟨hz, c, atI_zero _ _, sh1 (ha c (by simp)), by rw [lit_c]; exact sh1 (by decide), ?_⟩
  rw [lit_c, first_eq (r := r)]
  have fin : ∀ k : Bool, decide (c = 99) = k → C (.val (.tup [.str (wordS k), .int ((digitsVal r : Nat) : Int)])) := fun k e => by
    rw [← e]; exact hC
  refine ifB (fun h => ?_) (fun h => ?_)
  · refine ⟨hz, ?_⟩
    rw [show (1 : Int) = ((1 : Nat) : Int) from rfl, cut_from]
    exact ⟨rfl, r, rfl, (fig_digs hn.2).1, by have : r.length + 1 ≤ 59 := hl; omega, by show (2 : Nat) ≤ sizeLine; decide, fin true h⟩
  · refine ⟨hz, ?_⟩
    rw [show (1 : Int) = ((1 : Nat) : Int) from rfl, cut_from]
    exact ⟨rfl, r, rfl, (fig_digs hn.2).1, by have : r.length + 1 ≤ 59 := hl; omega, by show (2 : Nat) ≤ sizeLine; decide, fin false h⟩
theorem numL_len20 {n : Nat} (h : n < 10 ^ 20) : (numL n).length ≤ 20 := TL.numL_len (by decide) h
theorem numT_len {i : Int} (h : i.natAbs < 10 ^ 20) : (numT i).length ≤ 21 := by
  unfold numT
  split
  · have := numL_len20 (n := (-i).toNat) (by omega)
    show (numL (-i).toNat).length + 1 ≤ 21
    omega
  · have := numL_len20 (n := i.toNat) (by omega)
    omega
theorem numT_asc (i : Int) : ∀ c ∈ numT i, c < 128 ∧ c ≠ 32 := by
  unfold numT
  intro c hc
  split at hc
  · rcases List.mem_cons.mp hc with e | hc
    · rw [e]; decide
    · have := TL.numL_digits _ c hc; omega
  · have := TL.numL_digits _ c hc; omega
theorem winT_asc (w : Wd) : ∀ c ∈ winT w, c < 128 ∧ c ≠ 32 := by
  unfold winT
  intro c hc
  rcases List.mem_cons.mp hc with e | hc
  · rw [e]; split <;> decide
  · have := TL.numL_digits _ c hc; omega
theorem winT_len {w : Wd} (h0 : 0 ≤ w.2) (h : w.2 < 10 ^ 20) : (winT w).length ≤ 21 := by
  have := numL_len20 (n := w.2.toNat) (by omega)
  show (numL w.2.toNat).length + 1 ≤ 21
  omega
def dnT (ns : List Int) : List Nat := TL.joinL [32] (ns.map numT)
def aT (ws : List Wd) : List Nat := if ws = [] then [45] else TL.joinL [32] (ws.map winT)
theorem join_sx (ps : List (List Nat)) : Txt.join " " (ps.map Sx) = Sx (TL.joinL [32] ps) := by
  rw [TL.join_eq]
  refine sx_of ?_
  show TL.tl (Str.join _ _) = _
  rw [TL.tl_join, List.map_map]
  have e1 : TL.tl (" " : Str) = [32] := by decide +kernel
  have : (TL.tl ∘ Sx) = id := rfl
  rw [e1, this, List.map_id]
theorem sum_len {ps : List (List Nat)} {k : Nat} (h : ∀ p ∈ ps, p.length ≤ k) : ((ps.map Sx).map (·.length)).sum ≤ ps.length * k := by
  induction ps with
  | nil => simp
  | cons p ps ih =>
    have h1 := h p (by simp)
    have h2 := ih fun q hq => h q (by simp [hq])
    simp only [List.map_cons, List.sum_cons, List.length_cons]
    rw [Sx_len, Nat.add_mul]
    omega
theorem joinL_len {k : Nat} : ∀ {ps : List (List Nat)}, (∀ p ∈ ps, p.length ≤ k) → (TL.joinL [32] ps).length ≤ ps.length * (k + 1)
  | [], _ => Nat.zero_le _
  | [p], h => by
    have := h p (by simp)
    show p.length ≤ 1 * (k + 1)
    omega
  | p :: q :: r, h => by
    have h1 := h p (by simp)
    have ih := joinL_len (ps := q :: r) fun z hz => h z (by simp [hz])
    show (p ++ ([32] ++ TL.joinL [32] (q :: r))).length ≤ (r.length + 1 + 1) * (k + 1)
    have ih : (TL.joinL [32] (q :: r)).length ≤ (r.length + 1) * (k + 1) := ih
    rw [List.length_append, List.length_append, Nat.add_mul (r.length + 1) 1]
    show p.length + (1 + _) ≤ _
    omega
theorem joinL_mem {P : Nat → Prop} (h32 : P 32) : ∀ {ps : List (List Nat)}, (∀ p ∈ ps, ∀ c ∈ p, P c) → ∀ c ∈ TL.joinL [32] ps, P c
  | [], _, c, hc => nomatch hc
  | [p], h, c, hc => h p (by simp) c hc
  | p :: q :: r, h, c, hc => by
    have hc : c ∈ p ++ ([32] ++ TL.joinL [32] (q :: r)) := hc
    rcases List.mem_append.mp hc with hc | hc
    · exact h p (by simp) c hc
    · rcases List.mem_append.mp hc with hc | hc
      · rw [List.mem_singleton.mp hc]; exact h32
      · exact joinL_mem h32 (ps := q :: r) (fun z hz => h z (by simp [hz])) c hc
def g_dune_text : FA := fun ds C => ∃ d ns, ds = [d] ∧ Sq d ns ∧ ns.length ≤ 900 ∧ (∀ x ∈ ns, x.natAbs < 10 ^ 20) ∧ C (.val (.str (Sx (dnT ns))))
theorem rd_dune_text : ∀ ds C, ds.length = 1 → g_dune_text ds C → T_dune_text g_number_text (EA C) (startA N_dune_text ds) := by
  rintro ds C - ⟨d, ns, rfl, hd, hl, hr, hC⟩
  have key : lcW [1] (hName 1) pYes (pFrz (pCallA 1 g_number_text (pCons (pVar 1) pNil))) (fun acc ρ2 => ∃ ys : List Str, acc = ys.map D.str ∧ (ys.map (·.length)).sum + ys.length * (" " : Str).length ≤ 16777216 ∧ C (.val (.str (Txt.join " " ys)))) (dI ns) [] [some (.val d), none] := by
    refine lc_mp ns D.int (fun i => .str (Sx (numT i))) rfl (fun i hi K hK => ⟨rfl, i, rfl, hr i hi, hK _ rfl⟩) (by omega) ?_
    refine ⟨(ns.map numT).map Sx, by rw [List.map_map, List.map_map]; rfl, ?_, by rw [join_sx]; exact hC⟩
    have h1 := sum_len (ps := ns.map numT) (k := 21) fun p hp => by
      obtain ⟨i, hi, rfl⟩ := List.mem_map.mp hp
      exact numT_len (hr i hi)
    have l1 : (" " : Str).length = 1 := by decide +kernel
    rw [l1, List.length_map, List.length_map]
    rw [List.length_map] at h1
    omega
  rcases hd with rfl | rfl <;> exact key
def g_almanac_text : FA := fun ds C => ∃ am ws, ds = [am] ∧ Am am ws ∧ ws.length ≤ 900 ∧ (∀ w ∈ ws, 0 ≤ w.2 ∧ w.2 < 10 ^ 20) ∧ C (.val (.str (Sx (aT ws))))
theorem rd_almanac_text : ∀ ds C, ds.length = 1 → g_almanac_text ds C → T_almanac_text g_wind_text (EA C) (startA N_almanac_text ds) := by
  rintro ds C - ⟨am, ws, rfl, hm, hl, hr, hC⟩
  have hlen : ((windsD ws).length : Int) = (ws.length : Int) := by rw [windsD_len]
  have key : (if decide ((0 : Int) < ((windsD ws).length : Nat)) = true then lcW [1] (hName 1) pYes (pFrz (pCallA 1 g_wind_text (pCons (pVar 1) pNil))) (fun acc ρ2 => ∃ ys : List Str, acc = ys.map D.str ∧ (ys.map (·.length)).sum + ys.length * (" " : Str).length ≤ 16777216 ∧ C (.val (.str (Txt.join " " ys)))) (windsD ws) [] [some (.val am), none] else C (.val (.str "-"))) := by
    refine ifB (fun h => ?_) (fun h => ?_)
    · have h := of_decide_eq_true h
      have hne : ws ≠ [] := fun e => by rw [e] at h; exact absurd h (by decide)
      have e : aT ws = TL.joinL [32] (ws.map winT) := if_neg hne
      rw [e] at hC
      refine lc_mp ws (fun w => windD w.1 w.2) (fun w => .str (Sx (winT w))) rfl (fun w hw K hK => ⟨rfl, w, rfl, (hr w hw).1, (hr w hw).2, hK _ rfl⟩) (by omega) ?_
      refine ⟨(ws.map winT).map Sx, by rw [List.map_map, List.map_map]; rfl, ?_, by rw [join_sx]; exact hC⟩
      have h1 := sum_len (ps := ws.map winT) (k := 21) fun p hp => by
        obtain ⟨i, hi, rfl⟩ := List.mem_map.mp hp
        exact winT_len (hr i hi).1 (hr i hi).2
      have l1 : (" " : Str).length = 1 := by decide +kernel
      rw [l1, List.length_map, List.length_map]
      rw [List.length_map] at h1
      omega
    · have h := of_decide_eq_false h
      have hnil : ws = [] := by
        cases ws with
        | nil => rfl
        | cons w r => rw [hlen] at h; exact absurd (by show (0 : Int) < ((r.length + 1 : Nat) : Int); omega) h
      have e : aT ws = [45] := if_pos hnil
      rw [e, ← lit_m] at hC
      exact hC
  rcases hm with rfl | rfl <;> exact key
theorem sp_len : ((" " : Str).length == 0) = false := by decide +kernel
theorem sp_ok {l : List Nat} (h : l.length ≤ 300) : (Sx l).length + 2 ≤ sizeLine := by rw [Sx_len]; exact szl (by omega)
def g_dune_in : FA := fun ds C => ∃ l, ds = [.str (Sx l)] ∧ TxO l ∧ firstBad numB 0 (wds l) = none ∧ C (.val (tD ((wds l).map valN)))
theorem rd_dune_in : ∀ ds C, ds.length = 1 → g_dune_in ds C → T_dune_in g_is_number_word g_number_in (EA C) (startA N_dune_in ds) := by
  rintro ds C - ⟨l, rfl, ht, hb, hC⟩
  have hall := firstBad_none hb
  have hwl := wds_len l
  have h300 := ht.len
  refine ⟨sp_len, sp_ok ht.len, ?_⟩
  rw [split_sx, List.map_map]
  refine fr_en (wds l) (fun w => D.str (Sx w)) (fun k r ρ => (∀ w ∈ r, w ∈ wds l) ∧ ∃ (o2 : Option Cell) (o3 : Option D), ρ = [some (.val (.str (Sx l))), some (.val (.lst ((wds l).map (D.str ∘ Sx)))), o2, o3.map Cell.val]) rfl ⟨fun w hw => hw, none, none, rfl⟩ (fun k w r ρ K hI hK => ?_) (fun k ρ hI => ?_)
  · obtain ⟨hm, o2, o3, rfl⟩ := hI
    have hw := hm w (by simp)
    obtain ⟨t1, t2⟩ := ht.word hw
    refine ⟨rfl, rfl, rfl, w, rfl, t1, by omega, ?_⟩
    refine ifF (by rw [hall w hw]; rfl) ?_
    exact hK _ ⟨fun v hv => hm v (by simp [hv]), _, some (.str (Sx w)), rfl⟩
  · obtain ⟨_, o2, o3, rfl⟩ := hI
    refine lc_mp (wds l) (fun w => D.str (Sx w)) (fun w => .int (valN w)) rfl (fun w hw K hK => ?_) (by omega) ?_
    · obtain ⟨t1, t2⟩ := ht.word hw
      exact ⟨rfl, w, rfl, t1, hall w hw, by omega, hK _ (by cases o3 <;> rfl)⟩
    · have e : (wds l).map (fun w => D.int (valN w)) = dI ((wds l).map valN) := by show _ = List.map D.int _; rw [List.map_map]; rfl
      rw [e]; exact hC
def g_almanac_in : FA := fun ds C => ∃ l, ds = [.str (Sx l)] ∧ TxO l ∧ ((l = [45] ∧ ∀ p, C (.own p [])) ∨ (l ≠ [45] ∧ firstBad winB 0 (wds l) = none ∧ ∀ p, C (.own p (windsD ((wds l).map valW)))))
theorem eq_m (l : List Nat) : (D.str (Sx l)).eqv (.str "-") = decide (l = [45]) := by rw [lit_m, eqv_sx]
theorem sh_m : (D.str "-").sh := by rw [lit_m]; exact sh1 (by decide)
theorem rd_almanac_in : ∀ ds C, ds.length = 1 → g_almanac_in ds C → T_almanac_in g_is_wind_word g_wind_in (EA C) (startA N_almanac_in ds) := by
  rintro ds C - ⟨l, rfl, ht, h⟩
  refine ⟨sh_sx ht.asc, sh_m, ?_⟩
  rw [eq_m]
  rcases h with ⟨hl, hC⟩ | ⟨hl, hb, hC⟩
  · exact ifT (decide_eq_true hl) ⟨by show (0 : Nat) ≤ sizeLine; decide, fun p => hC p⟩
  refine ifF (decide_eq_false hl) ?_
  have hall := firstBad_none hb
  have hwl := wds_len l
  have h300 := ht.len
  refine ⟨sp_len, sp_ok ht.len, ?_⟩
  rw [split_sx, List.map_map]
  refine fr_en (wds l) (fun w => D.str (Sx w)) (fun k r ρ => (∀ w ∈ r, w ∈ wds l) ∧ ∃ (o2 : Option Cell) (o3 : Option D), ρ = [some (.val (.str (Sx l))), some (.val (.lst ((wds l).map (D.str ∘ Sx)))), o2, o3.map Cell.val]) rfl ⟨fun w hw => hw, none, none, rfl⟩ (fun k w r ρ K hI hK => ?_) (fun k ρ hI => ?_)
  · obtain ⟨hm, o2, o3, rfl⟩ := hI
    have hw := hm w (by simp)
    obtain ⟨t1, t2⟩ := ht.word hw
    refine ⟨rfl, rfl, rfl, w, rfl, t1, by omega, ?_⟩
    refine ifF (by rw [hall w hw]; rfl) ?_
    exact hK _ ⟨fun v hv => hm v (by simp [hv]), _, some (.str (Sx w)), rfl⟩
  · obtain ⟨_, o2, o3, rfl⟩ := hI
    refine lc_mp (wds l) (fun w => D.str (Sx w)) (fun w => windD (valW w).1 (valW w).2) rfl (fun w hw K hK => ?_) (by omega) ?_
    · obtain ⟨t1, t2⟩ := ht.word hw
      exact ⟨rfl, w, rfl, t1, hall w hw, by omega, hK _ (by cases o3 <;> rfl)⟩
    · have e : (wds l).map (fun w => windD (valW w).1 (valW w).2) = windsD ((wds l).map valW) := by unfold windsD; rw [List.map_map]; rfl
      rw [e]; exact hC
def gx_dune_in : FX := fun ds C => ∃ l i, ds = [.str (Sx l)] ∧ TxO l ∧ firstBad numB 0 (wds l) = some i ∧ C ⟨"BadText", .int ((i : Nat) : Int)⟩
def gx_almanac_in : FX := fun ds C => ∃ l i, ds = [.str (Sx l)] ∧ TxO l ∧ l ≠ [45] ∧ firstBad winB 0 (wds l) = some i ∧ C ⟨"BadText", .int ((i : Nat) : Int)⟩
theorem xwalk {g : TGp} {tb : TXs} {P : PEnds} {C : XD → Prop} (f : List Nat → Bool) (mk : Option Cell → Option D → Ro) (ok : List Nat → Prop) (i : Nat) (hC : C ⟨"BadText", .int ((i : Nat) : Int)⟩)
    (step : ∀ (n : Nat) (w : List Nat) (o2 : Option Cell) (o3 : Option D) (P' : PEnds), ok w → (f w = true → P'.nx (mk (some (.val (.int ((n : Nat) : Int)))) (some (.str (Sx w))))) → (f w = false → C ⟨"BadText", .int ((n : Nat) : Int)⟩) → g (.tup [.int ((n : Nat) : Int), .str (Sx w)]) (mk o2 o3) fun ρ1 => tb P' (EX C) ρ1) :
    ∀ (ws : List (List Nat)) (n : Nat) (o2 : Option Cell) (o3 : Option D), (∀ w ∈ ws, ok w) → firstBad f n ws = some i → xforW g tb P (EX C) (enumD n (ws.map fun w => D.str (Sx w))) (mk o2 o3)
  | [], n, o2, o3, _, h => by cases h
  | w :: ws, n, o2, o3, hk, h => by
    have h : (if f w = true then firstBad f (n + 1) ws else some n) = some i := h
    refine step n w o2 o3 _ (hk w (by simp)) (fun q => ?_) (fun q => ?_)
    · rw [if_pos q] at h
      exact xwalk f mk ok i hC step ws (n + 1) _ _ (fun v hv => hk v (by simp [hv])) h
    · rw [if_neg (by rw [q]; decide)] at h
      cases h
      exact hC
theorem rdx_dune_in : ∀ ds C, ds.length = 1 → gx_dune_in ds C → TX_dune_in g_is_number_word g_number_in okAny E0 (EX C) (startA N_dune_in ds) := by
  rintro ds C - ⟨l, i, rfl, ht, hb, hC⟩
  refine ⟨sp_len, sp_ok ht.len, ?_⟩
  rw [split_sx, List.map_map]
  refine xwalk numB (fun o2 o3 => [some (.val (.str (Sx l))), some (.val (.lst ((wds l).map (D.str ∘ Sx)))), o2, o3.map Cell.val]) (fun w => (∀ c ∈ w, c < 128) ∧ w.length ≤ 50) i hC (fun n w o2 o3 P' hw h1 h2 => ?_) (wds l) 0 none none (fun w hw => ht.word hw) hb
  refine ⟨rfl, rfl, rfl, w, rfl, hw.1, by have := hw.2; omega, ifB (fun h => ?_) (fun h => ?_)⟩
  · have h : (!numB w) = true := h
    exact ⟨trivial, h2 (by simpa using h)⟩
  · have h : (!numB w) = false := h
    exact h1 (by simpa using h)
theorem rdx_almanac_in : ∀ ds C, ds.length = 1 → gx_almanac_in ds C → TX_almanac_in g_is_wind_word g_wind_in okAny E0 (EX C) (startA N_almanac_in ds) := by
  rintro ds C - ⟨l, i, rfl, ht, hl, hb, hC⟩
  refine ⟨sh_sx ht.asc, sh_m, ?_⟩
  rw [eq_m]
  refine ifF (decide_eq_false hl) ?_
  refine ⟨sp_len, sp_ok ht.len, ?_⟩
  rw [split_sx, List.map_map]
  refine xwalk winB (fun o2 o3 => [some (.val (.str (Sx l))), some (.val (.lst ((wds l).map (D.str ∘ Sx)))), o2, o3.map Cell.val]) (fun w => (∀ c ∈ w, c < 128) ∧ w.length ≤ 50) i hC (fun n w o2 o3 P' hw h1 h2 => ?_) (wds l) 0 none none (fun w hw => ht.word hw) hb
  refine ⟨rfl, rfl, rfl, w, rfl, hw.1, by have := hw.2; omega, ifB (fun h => ?_) (fun h => ?_)⟩
  · have h : (!winB w) = true := h
    exact ⟨trivial, h2 (by simpa using h)⟩
  · have h : (!winB w) = false := h
    exact h1 (by simpa using h)
theorem dv_lt : ∀ {l : List Nat}, AllDigits l → digitsVal l < 10 ^ l.length := by
  intro l
  induction hn : l.length generalizing l with
  | zero =>
    intro _
    have : l = [] := List.eq_nil_of_length_eq_zero hn
    subst this
    decide
  | succ k ih =>
    intro h
    obtain ⟨i, c, rfl⟩ : ∃ i c, l = i ++ [c] := ⟨l.dropLast, l.getLast (by intro e; rw [e] at hn; simp at hn), (List.dropLast_concat_getLast _).symm⟩
    have hi : i.length = k := by rw [List.length_append] at hn; simpa using hn
    have := ih hi (fun x hx => h x (by simp [hx]))
    have hc := h c (by simp)
    rw [dv_snoc, Nat.pow_succ]
    omega
def g__law_is_figures : FA := fun ds C => ∃ l, ds = [.str (Sx l)] ∧ (∀ c ∈ l, c < 128) ∧ l.length ≤ 300 ∧ C (.val (.bl (figB l)))
theorem rd__law_is_figures : ∀ ds C, ds.length = 1 → g__law_is_figures ds C → T__law_is_figures (EA C) (startA N__law_is_figures ds) := by
  rintro ds C - ⟨l, rfl, ha, hl, hC⟩
  have e1 : (D.str (Sx l)).eqv (.str "") = decide (l = []) := by rw [lit_e, eqv_sx]
  refine ⟨sh_sx ha, by rw [lit_e]; exact sh0, ?_⟩
  rw [e1]
  refine ifB (fun h => ?_) (fun h => ?_)
  · have : figB l = false := by rw [of_decide_eq_true h]; rfl
    rw [← this]; exact hC
  have hne := of_decide_eq_false h
  refine all_figs l hl (fun c K hK => ⟨c, rfl, by rw [in_figs]; exact hK _ rfl⟩) ?_
  refine ⟨_, rfl, ?_⟩
  have e2 : (l.map isDig).all id = l.all isDig := by rw [List.all_map]; rfl
  rw [e2]
  refine ifB (fun h => ?_) (fun h => ?_)
  · have h : (!l.all isDig) = true := h
    have : figB l = false := by unfold figB; rw [(by simpa using h : l.all isDig = false)]; simp
    rw [← this]; exact hC
  have h : (!l.all isDig) = false := h
  have hd : l.all isDig = true := by simpa using h
  have hda := digs_all.mp hd
  have ef : figB l = (decide (l = [48]) || decide (l.headD 0 ≠ 48)) := by unfold figB; rw [decide_eq_true hne, hd]; rfl
  refine ⟨((digitsVal l : Nat) : Int), int_figs hda hne (by omega), by rw [Sx_len]; omega, ?_⟩
  have hlog : (((digitsVal l : Nat) : Int)).natAbs.log2 < 1920 := by
    have e : (((digitsVal l : Nat) : Int)).natAbs = digitsVal l := rfl
    rw [e]
    have hb := dv_lt hda
    by_cases h0 : digitsVal l = 0
    · rw [h0]; decide
    · have h2 : (digitsVal l).log2 < 4 * l.length := (Nat.log2_lt h0).mpr (by rw [Nat.pow_mul]; exact Nat.lt_of_lt_of_le hb (Nat.pow_le_pow_left (by decide) _))
      omega
  refine ⟨hlog, ?_⟩
  have e3 : (toString ((digitsVal l : Nat) : Int) : Str) = Sx (numL (digitsVal l)) := str_num _
  have s3 : (D.str (toString ((digitsVal l : Nat) : Int) : Str)).sh := by rw [e3]; exact sh_sx fun c hc => by have := TL.numL_digits _ c hc; omega
  refine ⟨s3, sh_sx ha, ?_⟩
  rw [e3, eqv_sx, fig_same hne hda, ← ef]
  exact hC
theorem walkR {g : TGp} {tb : TSp} (f : List Nat → Bool) (σ : List (List Nat) → Ro → Prop) (ok : List Nat → Prop)
    (step : ∀ (n : Nat) (w : List Nat) (dn : List (List Nat)) (ρ : Ro) (P' : PEnds), n ≤ 400 → dn.length = n → ok w → σ dn ρ → (f w = true → ∀ ρ', σ (dn ++ [w]) ρ' → P'.nx ρ') → (f w = false → ∀ ρ', P'.rt (.val (.int ((n : Nat) : Int))) ρ') → g (.tup [.int ((n : Nat) : Int), .str (Sx w)]) ρ fun ρ1 => tb P' ρ1) :
    ∀ (ws : List (List Nat)) (n : Nat) (dn : List (List Nat)) (ρ : Ro) (P : PEnds), dn.length = n → n + ws.length ≤ 400 → (∀ w ∈ ws, ok w) → σ dn ρ → (∀ i, firstBad f n ws = some i → ∀ ρ', P.rt (.val (.int ((i : Nat) : Int))) ρ') → (firstBad f n ws = none → ∀ ρ', σ (dn ++ ws) ρ' → P.nx ρ') →
      forW g tb P (enumD n (ws.map fun w => D.str (Sx w))) ρ
  | [], n, dn, ρ, P, _, _, _, h0, _, h2 => h2 rfl ρ (by rw [List.append_nil]; exact h0)
  | w :: ws, n, dn, ρ, P, hn, hl, hk, h0, h1, h2 => by
    have hl : n + (ws.length + 1) ≤ 400 := hl
    have e : firstBad f n (w :: ws) = if f w = true then firstBad f (n + 1) ws else some n := rfl
    rw [e] at h1 h2
    refine step n w dn ρ _ (by omega) hn (hk w (by simp)) h0 (fun q ρ' h => ?_) (fun q ρ' => ?_)
    · rw [if_pos q] at h1 h2
      refine walkR f σ ok step ws (n + 1) (dn ++ [w]) ρ' P (by rw [List.length_append, hn]; rfl) (by omega) (fun v hv => hk v (by simp [hv])) h h1 fun z ρ'' hz => h2 z ρ'' ?_
      rw [List.append_assoc] at hz
      exact hz
    · rw [if_neg (by rw [q]; decide)] at h1
      exact h1 n rfl ρ'
def g__law_dune_of : FA := fun ds C => ∃ l, ds = [.str (Sx l)] ∧ TxO l ∧ C (.val (dOf l))
theorem sh_m0 : (D.str "-0").sh := by rw [lit_m0]; exact sh_sx fun c hc => (by simp at hc; omega)
theorem rd__law_dune_of : ∀ ds C, ds.length = 1 → g__law_dune_of ds C → T__law_dune_of g__law_is_figures (EA C) (startA N__law_dune_of ds) := by
  rintro ds C - ⟨l, rfl, ht, hC⟩
  have hwl := wds_len l
  have h300 := ht.len
  refine ⟨by show (0 : Nat) ≤ sizeLine; decide, fun p => ?_⟩
  refine ⟨sp_len, sp_ok ht.len, ?_⟩
  rw [split_sx, List.map_map]
  refine walkR numB (fun dn ρ => ∃ o2 o3 o4, ρ = [some (.val (.str (Sx l))), some (.own p (dI (dn.map valN))), o2, o3, o4]) (fun w => (∀ c ∈ w, c < 128) ∧ w.length ≤ 50) (fun n w dn ρ P' hn hdn hw h0 h1 h2 => ?_) (wds l) 0 [] _ _ rfl (by omega) (fun w hw => ht.word hw) ⟨none, none, none, rfl⟩ (fun i hi ρ' => ?_) (fun hi ρ' h => ?_)
  · obtain ⟨o2, o3, o4, rfl⟩ := h0
    obtain ⟨ha, hl⟩ := hw
    have hz : (Sx w).length ≤ sizeLine := by rw [Sx_len]; exact szl (by omega)
    have hap : ∀ x : Int, dI (dn.map valN) ++ [D.int x] = dI (dn.map valN ++ [x]) := fun x => by
      show _ = List.map D.int _
      rw [List.map_append]; rfl
    have hsz : (dI (dn.map valN)).length < sizeLine := by rw [ints_len, List.length_map, hdn]; exact Nat.lt_of_lt_of_le (by omega : n < 1000) (szl (Nat.le_refl _))
    refine ⟨rfl, rfl, hz, ?_⟩
    rw [show (1 : Int) = ((1 : Nat) : Int) from rfl, cut_to]
    refine ⟨sh_sx fun c hc => ha c (List.mem_of_mem_take hc), sh_m, ?_⟩
    rw [lit_m, eqv_sx]
    refine ifB (fun h => ?_) (fun h => ?_)
    · obtain ⟨r, rfl⟩ := take1_45.mp (of_decide_eq_true h)
      have hr : r.length + 1 ≤ 50 := hl
      refine ⟨hz, ?_⟩
      rw [cut_from]
      refine ⟨rfl, r, rfl, fun c hc => ha c (by simp [hc]), by omega, ?_⟩
      have hB : numB (45 :: r) = (figB r && decide (r ≠ [48])) := rfl
      refine ifB (fun q => ?_) (fun q => ?_)
      · have q : (!figB r) = true := q
        exact h2 (by rw [hB, (by simpa using q : figB r = false)]; rfl) _
      · have q : (!figB r) = false := q
        have q : figB r = true := by simpa using q
        refine ⟨sh_sx ha, sh_m0, ?_⟩
        have e0 : (D.str (Sx (45 :: r))).eqv (.str "-0") = decide (r = [48]) := by
          rw [lit_m0, eqv_sx]
          exact decide_eq_decide.mpr ⟨fun e => (List.cons.inj e).2, fun e => by rw [e]⟩
        rw [e0]
        refine ifB (fun z => ?_) (fun z => ?_)
        · exact h2 (by rw [hB, q, of_decide_eq_true z]; rfl) _
        · have z := of_decide_eq_false z
          refine ⟨-((digitsVal r : Nat) : Int), int_negs (fig_digs q).1 (fig_digs q).2 (by omega), by rw [Sx_len]; show r.length + 1 ≤ 640; omega, _, rfl, hsz, ?_⟩
          refine h1 (by rw [hB, q, decide_eq_true z]; rfl) _ ⟨some (.val (.int ((n : Nat) : Int))), some (.val (.str (Sx (45 :: r)))), some (.val (.str (Sx r))), ?_⟩
          rw [List.map_append]
          show [some (Cell.val (.str (Sx l))), some (Cell.own p (dI (dn.map valN) ++ [D.int (-((digitsVal r : Nat) : Int))])), _, _, _] = _
          rw [hap]; rfl
    · have h : ¬ ∃ r, w = 45 :: r := fun z => of_decide_eq_false h (take1_45.mpr z)
      refine ⟨rfl, w, rfl, ha, by omega, ?_⟩
      refine ifB (fun q => ?_) (fun q => ?_)
      · have q : (!figB w) = true := q
        exact h2 (by rw [numB_no h, (by simpa using q : figB w = false)]) _
      · have q : (!figB w) = false := q
        have q : figB w = true := by simpa using q
        refine ⟨sh_sx ha, sh_m0, ?_⟩
        have e0 : (D.str (Sx w)).eqv (.str "-0") = false := by
          rw [lit_m0, eqv_sx]
          exact decide_eq_false fun e => h ⟨[48], e⟩
        refine ifF e0 ?_
        refine ⟨((digitsVal w : Nat) : Int), int_figs (fig_digs q).1 (fig_digs q).2 (by omega), by rw [Sx_len]; omega, _, rfl, hsz, ?_⟩
        refine h1 (by rw [numB_no h, q]) _ ⟨some (.val (.int ((n : Nat) : Int))), some (.val (.str (Sx w))), some (.val (.str (Sx w))), ?_⟩
        rw [List.map_append]
        show [some (Cell.val (.str (Sx l))), some (Cell.own p (dI (dn.map valN) ++ [D.int ((digitsVal w : Nat) : Int)])), _, _, _] = _
        rw [hap, ← valN_no h]; rfl
  · unfold dOf at hC
    rw [hi] at hC
    exact hC
  · obtain ⟨o2, o3, o4, rfl⟩ := h
    unfold dOf at hC
    rw [hi] at hC
    exact hC
def g__law_winds_of : FA := fun ds C => ∃ l, ds = [.str (Sx l)] ∧ TxO l ∧ ∀ c : Cell, c.froz = wOf l → C c
theorem rd__law_winds_of : ∀ ds C, ds.length = 1 → g__law_winds_of ds C → T__law_winds_of g__law_is_figures (EA C) (startA N__law_winds_of ds) := by
  rintro ds C - ⟨l, rfl, ht, hC⟩
  have hwl := wds_len l
  have h300 := ht.len
  refine ⟨sh_sx ht.asc, sh_m, ?_⟩
  rw [eq_m]
  refine ifB (fun h => ?_) (fun h => ?_)
  · refine ⟨by show (0 : Nat) ≤ sizeLine; decide, fun p => hC _ ?_⟩
    show D.lst [] = _
    unfold wOf
    rw [if_pos (of_decide_eq_true h)]
  have hne := of_decide_eq_false h
  have ew : wOf l = match firstBad winB 0 (wds l) with
    | some i => .int i
    | none => .lst (windsD ((wds l).map valW)) := if_neg hne
  refine ⟨by show (0 : Nat) ≤ sizeLine; decide, fun p => ?_⟩
  refine ⟨sp_len, sp_ok ht.len, ?_⟩
  rw [split_sx, List.map_map]
  refine walkR winB (fun dn ρ => ∃ o2 o3, ρ = [some (.val (.str (Sx l))), some (.own p (windsD (dn.map valW))), o2, o3]) (fun w => (∀ c ∈ w, c < 128) ∧ w.length ≤ 50) (fun n w dn ρ P' hn hdn hw h0 h1 h2 => ?_) (wds l) 0 [] _ _ rfl (by omega) (fun w hw => ht.word hw) ⟨none, none, rfl⟩ (fun i hi ρ' => ?_) (fun hi ρ' h => ?_)
  · obtain ⟨o2, o3, rfl⟩ := h0
    obtain ⟨ha, hl⟩ := hw
    have hz : (Sx w).length ≤ sizeLine := by rw [Sx_len]; exact szl (by omega)
    have hsz : (windsD (dn.map valW)).length < sizeLine := by rw [windsD_len, List.length_map, hdn]; exact Nat.lt_of_lt_of_le (by omega : n < 1000) (szl (Nat.le_refl _))
    refine ⟨rfl, rfl, hz, ?_⟩
    rw [show (1 : Int) = ((1 : Nat) : Int) from rfl, cut_to]
    refine ⟨by show (2 : Nat) ≤ sizeLine; decide, sh_sx fun c hc => ha c (List.mem_of_mem_take hc), sh_cf2, ?_⟩
    rw [take1_cf]
    cases w with
    | nil => exact h2 rfl _
    | cons c r =>
      rw [cf_cons]
      have hr : r.length + 1 ≤ 50 := hl
      have e : winB (c :: r) = ((decide (c = 99) || decide (c = 102)) && figB r) := rfl
      refine ifB (fun q => ?_) (fun q => ?_)
      · have q : (!(decide (c = 99) || decide (c = 102))) = true := q
        exact h2 (by rw [e, (by simpa using q : (decide (c = 99) || decide (c = 102)) = false)]; rfl) _
      have q : (!(decide (c = 99) || decide (c = 102))) = false := q
      have q : (decide (c = 99) || decide (c = 102)) = true := by
        cases z : (decide (c = 99) || decide (c = 102)) with
        | true => rfl
        | false => rw [z] at q; cases q
      refine ⟨hz, ?_⟩
      rw [cut_from]
      refine ⟨rfl, r, rfl, fun c hc => ha c (by simp [hc]), by omega, ifB (fun z => ?_) (fun z => ?_)⟩
      · have z : (!figB r) = true := z
        exact h2 (by rw [e, q, (by simpa using z : figB r = false)]; rfl) _
      have z : (!figB r) = false := z
      have z : figB r = true := by simpa using z
      refine ⟨hz, c, atI_zero _ _, sh1 (ha c (by simp)), by rw [lit_c]; exact sh1 (by decide), ?_⟩
      rw [lit_c, first_eq (r := r)]
      have fin : ∀ k : Bool, decide (c = 99) = k → P'.nx [some (.val (.str (Sx l))), some (.own p (windsD (dn.map valW) ++ [D.tup [.str (wordS k), .int ((digitsVal r : Nat) : Int)]])), some (.val (.int ((n : Nat) : Int))), some (.val (.str (Sx (c :: r))))] := fun k ek => by
        refine h1 (by rw [e, q, z]; rfl) _ ⟨some (.val (.int ((n : Nat) : Int))), some (.val (.str (Sx (c :: r)))), ?_⟩
        rw [List.map_append]
        have : windsD (dn.map valW ++ [valW (c :: r)]) = windsD (dn.map valW) ++ [D.tup [.str (wordS k), .int ((digitsVal r : Nat) : Int)]] := by
          unfold windsD
          rw [List.map_append, ← ek]; rfl
        show _ = [some (Cell.val (.str (Sx l))), some (Cell.own p (windsD (dn.map valW ++ [valW (c :: r)]))), _, _]
        rw [this]
      refine ifB (fun k => ?_) (fun k => ?_)
      · refine ⟨hz, ?_⟩
        rw [cut_from]
        exact ⟨_, int_figs (fig_digs z).1 (fig_digs z).2 (by show r.length ≤ 600; omega), by rw [Sx_len]; show r.length ≤ 640; omega, by show (2 : Nat) ≤ sizeLine; decide, _, rfl, hsz, fin true k⟩
      · refine ⟨hz, ?_⟩
        rw [cut_from]
        exact ⟨_, int_figs (fig_digs z).1 (fig_digs z).2 (by show r.length ≤ 600; omega), by rw [Sx_len]; show r.length ≤ 640; omega, by show (2 : Nat) ≤ sizeLine; decide, _, rfl, hsz, fin false k⟩
  · refine hC _ ?_
    rw [ew, hi]; rfl
  · obtain ⟨o2, o3, rfl⟩ := h
    refine hC _ ?_
    rw [ew, hi]; rfl
def g__law_read : FA := fun ds C => ∃ l b, ds = [.str (Sx l), .bl b] ∧ TxO l ∧ C (.val (if b = true then dOf l else wOf l))
theorem rd__law_read : ∀ ds C, ds.length = 2 → g__law_read ds C → T__law_read g_dune_in g_almanac_in gx_dune_in gx_almanac_in (EA C) (startA N__law_read ds) := by
  rintro ds C - ⟨l, b, rfl, ht, hC⟩
  refine ⟨by show (2 : Nat) ≤ sizeLine; decide, rfl, rfl, ?_⟩
  cases b with
  | true =>
    have hC : C (.val (dOf l)) := hC
    unfold dOf at hC
    cases hb : firstBad numB 0 (wds l) with
    | none =>
      rw [hb] at hC
      exact .inl ⟨rfl, l, rfl, ht, hb, hC⟩
    | some i =>
      rw [hb] at hC
      refine .inr ⟨rfl, l, i, rfl, ht, hb, by simp, ?_⟩
      refine ⟨by simp, ?_⟩
      exact ifT (by show ([("ValueError" : Str)].any (isaX "BadText")) = true; decide +kernel) ⟨by simp, (by decide +kernel : xfield "BadText" = "at"), hC⟩
  | false =>
    have hC : C (.val (wOf l)) := hC
    by_cases hl : l = [45]
    · have e : wOf l = .lst [] := if_pos hl
      rw [e] at hC
      exact .inl ⟨rfl, l, rfl, ht, .inl ⟨hl, fun p => hC⟩⟩
    · have e : wOf l = match firstBad winB 0 (wds l) with
        | some i => .int i
        | none => .lst (windsD ((wds l).map valW)) := if_neg hl
      rw [e] at hC
      cases hb : firstBad winB 0 (wds l) with
      | none =>
        rw [hb] at hC
        exact .inl ⟨rfl, l, rfl, ht, .inr ⟨hl, hb, fun p => hC⟩⟩
      | some i =>
        rw [hb] at hC
        refine .inr ⟨rfl, l, i, rfl, ht, hl, hb, by simp, ?_⟩
        refine ⟨by simp, ?_⟩
        exact ifT (by show ([("ValueError" : Str)].any (isaX "BadText")) = true; decide +kernel) ⟨by simp, (by decide +kernel : xfield "BadText" = "at"), hC⟩
def g__law_ofT : FB := fun xs ds C => ∃ n m, n ≤ 10000000000 ∧ Bx n xs ∧ ds = [.str (Sx m)] ∧ m ≠ [] ∧ m.length ≤ 300 ∧ ∀ c zs, c ∈ m → Bx (n + 2) zs → C (.val (.str (Sx [c]))) zs
theorem atI_at {α : Type} {l : List α} {j : Nat} {x : α} (h : l[j]? = some x) : atI l ((j : Nat) : Int) = some x := by
  have hj : j < l.length := (List.getElem?_eq_some_iff.mp h).1
  unfold atI
  have e : ixN l.length ((j : Nat) : Int) = some j := by
    unfold ixN
    rw [if_pos (by omega), if_pos (by omega)]
    rfl
  rw [e]
  exact h
theorem rd__law_ofT : ∀ a xs ds C, ds.length + 1 = 2 → g__law_ofT xs ds C → T__law_of (g_take 100000000000000) { nx := fun ρ => ∃ ys, ρ[0]? = some (some (.own a ys)) ∧ C (.val .non) ys, rt := fun c ρ => ∃ ys, ρ[0]? = some (some (.own a ys)) ∧ C c ys } (startB N__law_of a xs ds) := by
  rintro a xs ds C - ⟨n, m, hn, hB, rfl, hne, hl, hC⟩
  have h0 : 0 < m.length := List.length_pos_iff.mpr hne
  have hz : (Sx m).length ≤ sizeLine := by rw [Sx_len]; exact szl (by omega)
  refine ⟨hz, xs, rfl, rfl, n, ((Sx m).length : Nat), by omega, hB, rfl, by rw [Sx_len]; omega, by rw [Sx_len]; omega, fun r ys r0 r1 hB1 => ?_⟩
  obtain ⟨j, rfl⟩ := Int.eq_ofNat_of_zero_le r0
  rw [Sx_len] at r1
  have hj : j < m.length := by omega
  exact ⟨hz, m[j], atI_at (List.getElem?_eq_getElem hj), ys, rfl, hC _ ys (List.getElem_mem hj) hB1⟩
def g__law_spoilt : FB := fun xs ds C => ∃ n l, n ≤ 1000000000 ∧ Bx n xs ∧ ds = [.str (Sx l)] ∧ l ≠ [] ∧ l.length ≤ 290 ∧ (∀ c ∈ l, c < 128) ∧ Mb 21 l ∧ ∀ l' zs, TxO l' → Bx (n + 6) zs → C (.val (.str (Sx l'))) zs
theorem some_signs : ("0123456789 -cf+_.a" : Str) = Sx [48, 49, 50, 51, 52, 53, 54, 55, 56, 57, 32, 45, 99, 102, 43, 95, 46, 97] := by decide +kernel
theorem tx_ed {l m : List Nat} {a b : Nat} (hl : l.length ≤ 290) (ha : ∀ c ∈ l, c < 128) (hm : Mb 21 l) (hab : a ≤ b) (h1 : m.length ≤ 1) (h2 : ∀ c ∈ m, c < 128) : TxO ((l.take a ++ m) ++ l.drop b) := by
  have m1 : Mb 21 (l.take a) := Mb.left (a := l.take a) (b := l.drop a) (by rw [List.take_append_drop]; exact hm)
  have m2 : Mb 21 (l.drop b) := Mb.right (a := l.take b) (b := l.drop b) (by rw [List.take_append_drop]; exact hm)
  have m3 : Mb 1 m := fun w hw => Nat.le_trans (wds_mem hw).2 h1
  refine ⟨fun c hc => ?_, ?_, (Mb.app (Mb.app m1 m3) m2).mono (by omega)⟩
  · rcases List.mem_append.mp hc with h | h
    · rcases List.mem_append.mp h with h | h
      · exact ha c (List.mem_of_mem_take h)
      · exact h2 c h
    · exact ha c (List.mem_of_mem_drop h)
  · rw [List.length_append, List.length_append, List.length_take, List.length_drop]
    omega
theorem rd__law_spoilt : ∀ a xs ds C, ds.length + 1 = 2 → g__law_spoilt xs ds C → T__law_spoilt (g_take 100000000000000) g__law_ofT { nx := fun ρ => ∃ ys, ρ[0]? = some (some (.own a ys)) ∧ C (.val .non) ys, rt := fun c ρ => ∃ ys, ρ[0]? = some (some (.own a ys)) ∧ C c ys } (startB N__law_spoilt a xs ds) := by
  rintro a xs ds C - ⟨n, l, hn, hB, rfl, hne, hl, ha, hm, hC⟩
  have h0 : 0 < l.length := List.length_pos_iff.mpr hne
  have hz : (Sx l).length ≤ sizeLine := by rw [Sx_len]; exact szl (by omega)
  refine ⟨hz, xs, rfl, rfl, n, ((Sx l).length : Nat), by omega, hB, rfl, by rw [Sx_len]; omega, by rw [Sx_len]; omega, fun r ys r0 r1 hB1 => ?_⟩
  obtain ⟨j, rfl⟩ := Int.eq_ofNat_of_zero_le r0
  rw [Sx_len] at r1
  have hj : j < l.length := by omega
  refine ⟨ys, rfl, rfl, _, 4, by omega, hB1, rfl, by decide, by decide, fun way ys2 w0 w1 hB2 => ?_⟩
  refine ⟨ys2, rfl, rfl, _, _, by omega, hB2, by rw [some_signs], by simp, by decide, fun c ys3 hc hB3 => ?_⟩
  have hc128 : c < 128 := by
    simp only [List.mem_cons, List.not_mem_nil, or_false] at hc
    omega
  have hlt : ∀ k : Nat, (l.take k).length ≤ 290 := fun k => by rw [List.length_take]; omega
  have hld : ∀ k : Nat, (l.drop k).length ≤ 290 := fun k => by rw [List.length_drop]; omega
  have e1 : ((j : Nat) : Int) + 1 = ((j + 1 : Nat) : Int) := by omega
  refine ⟨sh_int _, sh_int _, ifB (fun h => ?_) (fun h => ?_)⟩
  · refine ⟨hz, ?_⟩
    rw [cut_to]
    refine ⟨hz, ?_⟩
    dsimp only
    rw [e1, cut_from]
    refine ⟨by rw [Sx_len, Sx_len]; exact szl (by have := hlt j; have := hld (j + 1); omega), ys3, rfl, ?_⟩
    rw [Sx_app]
    have := hC _ ys3 (tx_ed (m := []) hl ha hm (by omega : j ≤ j + 1) (by decide) (fun c hc => nomatch hc)) (hB3.mono (by omega))
    rw [List.append_nil] at this
    exact this
  refine ⟨sh_int _, sh_int _, ifB (fun h => ?_) (fun h => ?_)⟩
  · refine ⟨hz, ?_⟩
    rw [cut_to]
    refine ⟨hz, l[j], atI_at (List.getElem?_eq_getElem hj), by rw [Sx_len]; exact szl (by have := hlt j; show _ + 1 ≤ 1000; omega), hz, ?_⟩
    rw [cut_from]
    have e2 : Sx (l.take j) ++ (⟨#[l[j]]⟩ : Str) = Sx (l.take j ++ [l[j]]) := Sx_app (l.take j) [l[j]]
    rw [e2]
    refine ⟨by rw [Sx_len, Sx_len, List.length_append]; exact szl (by have := hlt j; have := hld j; show _ + 1 + _ ≤ 1000; omega), ys3, rfl, ?_⟩
    rw [Sx_app]
    exact hC _ ys3 (tx_ed hl ha hm (Nat.le_refl j) (Nat.le_refl 1) (fun c hc => by rw [List.mem_singleton.mp hc]; exact ha _ (List.getElem_mem hj))) (hB3.mono (by omega))
  · refine ⟨hz, ?_⟩
    rw [cut_to]
    refine ⟨by rw [Sx_len, Sx_len]; exact szl (by have := hlt j; show _ + 1 ≤ 1000; omega), sh_int _, sh_int _, hz, ?_⟩
    rw [Sx_app]
    have key : ∀ b : Bool, ∃ k : Nat, j ≤ k ∧ ((j : Nat) : Int) + (if b = true then (1 : Int) else 0) = ((k : Nat) : Int) := fun b => by
      cases b with
      | true => exact ⟨j + 1, by omega, by rw [if_pos rfl]; omega⟩
      | false => exact ⟨j, Nat.le_refl _, by rw [if_neg (by decide)]; omega⟩
    obtain ⟨k, hk, ek⟩ := key ((Cell.val (D.int way)).froz.eqv (.int 2))
    dsimp only
    rw [ek, cut_from]
    refine ⟨by rw [Sx_len, Sx_len, List.length_append]; exact szl (by have := hlt j; have := hld k; show _ + 1 + _ ≤ 1000; omega), ys3, rfl, ?_⟩
    rw [Sx_app]
    exact hC _ ys3 (tx_ed hl ha hm hk (Nat.le_refl 1) (fun x hx => by rw [List.mem_singleton.mp hx]; exact hc128)) (hB3.mono (by omega))
theorem str_int (i : Int) : ((toString i : String) : Str) = Sx (numT i) := by
  cases i with
  | ofNat n =>
    have e : numT (Int.ofNat n) = numL n := by
      unfold numT
      rw [if_neg (by show ¬ ((n : Nat) : Int) < 0; omega)]; rfl
    rw [e]; exact str_num n
  | negSucc n =>
    have e : numT (Int.negSucc n) = 45 :: numL (n + 1) := by
      unfold numT
      rw [if_pos (Int.negSucc_lt_zero n)]; rfl
    rw [e]
    refine sx_of ?_
    have h1 : (toString (Int.negSucc n) : String) = "-" ++ toString (((n + 1 : Nat)) : Int) := rfl
    show TL.tl (Str.ofString (toString (Int.negSucc n))) = _
    rw [h1, TL.tl_ofString, String.toList_append, List.map_append]
    have h2 : (toString (((n + 1 : Nat)) : Int) : String).toList.map Char.toNat = numL (n + 1) := by
      rw [← TL.tl_ofString]; exact TL.tl_num (n + 1)
    rw [h2]; rfl
theorem log_ok {i : Int} (h : i.natAbs < 10 ^ 20) : i.natAbs.log2 < 1920 := by
  by_cases h0 : i.natAbs = 0
  · rw [h0]; decide
  · have h2 : i.natAbs.log2 < 100 := (Nat.log2_lt h0).mpr (Nat.lt_of_lt_of_le h (by decide))
    omega
theorem dn_wds {ns : List Int} (h : ns ≠ []) : wds (dnT ns) = ns.map numT := wds_join (fun e => h (List.map_eq_nil_iff.mp e)) fun p hp => by
  obtain ⟨i, _, rfl⟩ := List.mem_map.mp hp
  exact fun hm => (numT_asc i 32 hm).2 rfl
theorem dn_back {ns : List Int} (h : ns ≠ []) : firstBad numB 0 (wds (dnT ns)) = none ∧ (wds (dnT ns)).map valN = ns := by
  rw [dn_wds h]
  refine ⟨firstBad_all 0 fun w hw => ?_, ?_⟩
  · obtain ⟨i, _, rfl⟩ := List.mem_map.mp hw
    exact (numT_ok i).1
  · rw [List.map_map]
    have : (valN ∘ numT) = id := funext fun i => (numT_ok i).2
    rw [this, List.map_id]
theorem a_wds {ws : List Wd} (h : ws ≠ []) : wds (aT ws) = ws.map winT := by
  have e : aT ws = TL.joinL [32] (ws.map winT) := if_neg h
  rw [e]
  refine wds_join (fun e => h (List.map_eq_nil_iff.mp e)) fun p hp => ?_
  obtain ⟨i, _, rfl⟩ := List.mem_map.mp hp
  exact fun hm => (winT_asc i 32 hm).2 rfl
theorem a_back {ws : List Wd} (h : ws ≠ []) (h0 : ∀ w ∈ ws, 0 ≤ w.2) : firstBad winB 0 (wds (aT ws)) = none ∧ (wds (aT ws)).map valW = ws ∧ aT ws ≠ [45] := by
  have e := a_wds h
  refine ⟨?_, ?_, fun z => ?_⟩
  · rw [e]
    refine firstBad_all 0 fun w hw => ?_
    obtain ⟨i, hi, rfl⟩ := List.mem_map.mp hw
    exact (winT_ok (h0 i hi)).1
  · rw [e, List.map_map]
    have : ws.map (valW ∘ winT) = ws.map id := List.map_congr_left fun i hi => (winT_ok (h0 i hi)).2
    rw [this, List.map_id]
  · rw [z] at e
    cases ws with
    | nil => exact h rfl
    | cons w r =>
      have e : [[45]] = winT w :: r.map winT := e
      have := (List.cons.inj e).1
      have h3 : (45 : Nat) = if w.1 = true then 99 else 102 := (List.cons.inj this).1
      split at h3 <;> omega
structure Plain (l : List Nat) : Prop where
  ne : l ≠ []
  len : l.length ≤ 290
  asc : ∀ c ∈ l, c < 128
  mb : Mb 21 l
theorem Plain.tx {l : List Nat} (h : Plain l) : TxO l := ⟨h.asc, by have := h.len; omega, h.mb.mono (by omega)⟩
theorem join_ne {ps : List (List Nat)} (h : ps ≠ []) (hp : ∀ p ∈ ps, p ≠ []) : TL.joinL [32] ps ≠ [] := by
  match ps, h with
  | [p], _ => exact hp p (by simp)
  | p :: q :: r, _ =>
    intro e
    have e : p ++ ([32] ++ TL.joinL [32] (q :: r)) = [] := e
    have := List.append_eq_nil_iff.mp e
    exact hp p (by simp) this.1
theorem numT_ne (i : Int) : numT i ≠ [] := by
  unfold numT
  split
  · simp
  · exact TL.numL_ne _
theorem dn_plain {ns : List Int} (h : ns ≠ []) (hl : ns.length ≤ 8) (hr : ∀ x ∈ ns, x.natAbs < 10 ^ 20) : Plain (dnT ns) := by
  have hp : ∀ p ∈ ns.map numT, p.length ≤ 21 := fun p hp => by
    obtain ⟨i, hi, rfl⟩ := List.mem_map.mp hp
    exact numT_len (hr i hi)
  refine ⟨join_ne (fun e => h (List.map_eq_nil_iff.mp e)) fun p hp => ?_, ?_, joinL_mem (P := fun c => c < 128) (by decide) fun p hp c hc => ?_, fun w hw => ?_⟩
  · obtain ⟨i, _, rfl⟩ := List.mem_map.mp hp
    exact numT_ne i
  · have := joinL_len hp
    rw [List.length_map] at this
    show (TL.joinL [32] (ns.map numT)).length ≤ 290
    omega
  · obtain ⟨i, _, rfl⟩ := List.mem_map.mp hp
    exact (numT_asc i c hc).1
  · rw [dn_wds h] at hw
    exact hp w hw
theorem a_plain {ws : List Wd} (hl : ws.length ≤ 6) (hr : ∀ w ∈ ws, 0 ≤ w.2 ∧ w.2 < 10 ^ 20) : Plain (aT ws) := by
  by_cases h : ws = []
  · subst h
    exact ⟨by decide, by decide, by decide, fun w hw => Nat.le_trans (wds_mem hw).2 (by decide)⟩
  have e : aT ws = TL.joinL [32] (ws.map winT) := if_neg h
  have hp : ∀ p ∈ ws.map winT, p.length ≤ 21 := fun p hp => by
    obtain ⟨i, hi, rfl⟩ := List.mem_map.mp hp
    exact winT_len (hr i hi).1 (hr i hi).2
  refine ⟨?_, ?_, ?_, fun w hw => ?_⟩
  · rw [e]
    refine join_ne (fun e => h (List.map_eq_nil_iff.mp e)) fun p hp => ?_
    obtain ⟨i, _, rfl⟩ := List.mem_map.mp hp
    exact List.cons_ne_nil _ _
  · rw [e]
    have := joinL_len hp
    rw [List.length_map] at this
    omega
  · rw [e]
    refine joinL_mem (P := fun c => c < 128) (by decide) fun p hp c hc => ?_
    obtain ⟨i, _, rfl⟩ := List.mem_map.mp hp
    exact (winT_asc i c hc).1
  · rw [a_wds h] at hw
    exact hp w hw
def oddS : List Str := ["", " ", "-", "0", "-0", "00", "01", "+1", "1_0", "1 ", " 1", "1  2", "--1", "- 1", "1.0", "c", "f", "c0", "f01", "c-1", "c3 f2", "c3  f2", "f2 -", "- c3", "C3", "cut 3", "c3,f2", "1\n", "c3\n", "c3 f", "x3", "12 c3"]
def oddL : List (List Nat) := oddS.map fun s => s.cps.toList
abbrev strsD (ls : List (List Nat)) : List D := ls.map fun l => D.str (Sx l)
theorem odd_eq : oddS.map D.str = strsD oddL := by
  unfold oddL strsD
  rw [List.map_map]
  exact List.map_congr_left fun s _ => congrArg D.str (sx_of rfl)
def txB (l : List Nat) : Bool := l.all (fun c => decide (c < 128)) && (decide (l.length ≤ 300) && (wds l).all fun w => decide (w.length ≤ 50))
theorem tx_of {l : List Nat} (h : txB l = true) : TxO l := by
  unfold txB at h
  simp only [Bool.and_eq_true, List.all_eq_true, decide_eq_true_iff] at h
  exact ⟨h.1, h.2.1, h.2.2⟩
theorem odd_tx : ∀ l ∈ oddL, TxO l := by
  have h : oddL.all txB = true := by decide +kernel
  intro l hl
  exact tx_of (List.all_eq_true.mp h l hl)
theorem odd_len : oddL.length = 32 := by unfold oddL; rw [List.length_map]; rfl
theorem lcW_txt {vs : List Nat} {g : TGp} {te : TEp} {Q : List D → Ro → Prop} (ρf : List D → Ro) (k N : Nat) (Pre : D → Prop)
    (hs : ∀ (d : D) (zs : List D) (n : Nat) (K : D → Ro → Prop), Pre d → Bx n zs → n ≤ N → (∀ (l : List Nat) (zs' : List D) (ρ4 : Ro), Bx (n + k) zs' → TxO l → restore (ρf zs) ρ4 vs = ρf zs' → K (.str (Sx l)) ρ4) → g d (wipeP (ρf zs) vs) fun ρ2 => te ρ2 K) :
    ∀ (ds acc : List D) (n : Nat) (zs : List D), Bx n zs → n + k * ds.length ≤ N → (∀ d ∈ ds, Pre d) → acc.length + ds.length ≤ 1000 → (∀ (out : List (List Nat)) (zs' : List D), (∀ l ∈ out, TxO l) → out.length = ds.length → Bx (n + k * ds.length) zs' → Q (acc ++ strsD out) (ρf zs')) → lcW vs g pYes te Q ds acc (ρf zs)
  | [], acc, n, zs, hB, hn, _, _, hQ => by
    have hQ : Q (acc ++ []) (ρf zs) := hQ [] zs (fun _ h => nomatch h) rfl hB
    rw [List.append_nil] at hQ
    exact hQ
  | d :: ds, acc, n, zs, hB, hn, hp, hl, hQ => by
    have hl' : acc.length + (ds.length + 1) ≤ 1000 := hl
    have hn' : n + k * (ds.length + 1) ≤ N := hn
    rw [Nat.mul_add, Nat.mul_one] at hn'
    refine hs d zs n _ (hp d (by simp)) hB (by omega) fun l zs' ρ4 hB' hl2 e => ⟨small1000 (by omega), ?_⟩
    rw [e]
    refine lcW_txt ρf k N Pre hs ds (acc ++ [.str (Sx l)]) (n + k) zs' hB' (by omega) (fun x hx => hp x (by simp [hx])) (by rw [List.length_append]; show acc.length + 1 + ds.length ≤ 1000; omega) fun out zs'' h1 h2 h3 => ?_
    have := hQ (l :: out) zs'' (fun x hx => by
      rcases List.mem_cons.mp hx with z | hx
      · rw [z]; exact hl2
      · exact h1 x hx) (by show out.length + 1 = ds.length + 1; omega) (h3.mono (by rw [List.length_cons, Nat.mul_add, Nat.mul_one]; omega))
    rw [List.append_assoc]
    exact this
section
abbrev rho (w0 : Option Cell) (w1 : Option Cell) (w2 : Option Cell) (w3 : Option Cell) (w4 : Option Cell) (w5 : Option Cell) (w7 : Option Cell) (w10 : Option Cell) (v11 : Option D) (w12 : Option Cell) (w13 : Option Cell) : Ro := [w0, w1, w2, w3, w4, w5, none, w7, none, none, w10, v11.map Cell.val, w12, w13]
variable {w0 w1 w2 w3 w4 w5 w7 w10 w12 w13 : Option Cell} {v11 : Option D}
variable {P : PEnds} {ns hill : List Int} {k : Int} {a0 p : Addr} {zs : List D} {n : Nat} {ws : List Wd}
abbrev vTx (ls : List (List Nat)) : Option Cell := some (.val (.lst (strsD ls)))
theorem s1 (hP : P.nx (rho w0 (some (.val (.lst ((oddS.take 18).map D.str)))) w2 w3 w4 w5 w7 w10 v11 w12 w13)) : T_law_1 P (rho w0 w1 w2 w3 w4 w5 w7 w10 v11 w12 w13) := ⟨by show (18 : Nat) ≤ sizeLine; decide, hP⟩
theorem s2 (hP : P.nx (rho w0 (some (.val (.lst ((oddS.take 29).map D.str)))) w2 w3 w4 w5 w7 w10 v11 w12 w13)) : T_law_2 P (rho w0 (some (.val (.lst ((oddS.take 18).map D.str)))) w2 w3 w4 w5 w7 w10 v11 w12 w13) := ⟨by show (11 : Nat) ≤ sizeLine; decide, by show (29 : Nat) ≤ sizeLine; decide, hP⟩
theorem s3 (hP : P.nx (rho w0 (vTx oddL) w2 w3 w4 w5 w7 w10 v11 w12 w13)) : T_law_3 P (rho w0 (some (.val (.lst ((oddS.take 29).map D.str)))) w2 w3 w4 w5 w7 w10 v11 w12 w13) := by
  have hP' : P.nx (rho w0 (some (.val (.lst (oddS.map D.str)))) w2 w3 w4 w5 w7 w10 v11 w12 w13) := by rw [odd_eq]; exact hP
  exact ⟨by show (3 : Nat) ≤ sizeLine; decide, by show (32 : Nat) ≤ sizeLine; decide, hP'⟩
theorem s42 (hB : Bx n zs) (hn : n ≤ 1000000) (hP : ∀ hill ws zs, hill ≠ [] → hill.length ≤ 8 → (∀ x ∈ hill, x.natAbs < 10 ^ 20) → ws.length ≤ 6 → (∀ w ∈ ws, 0 ≤ w.2 ∧ w.2 < 10 ^ 20) → Bx (n + 3000) zs → P.nx (rho w0 w1 w2 (vo a0 zs) (vT hill) (vW ws) w7 w10 v11 w12 w13)) : T_law_4_2 g__law_dune g__law_winds P (rho w0 w1 w2 (vo a0 zs) w4 w5 w7 w10 v11 w12 w13) := by
  refine ⟨zs, rfl, rfl, n, 8, by omega, hB, rfl, by decide, by decide, fun hill zs1 hne hlen hr hB1 => ?_⟩
  refine ⟨zs1, rfl, rfl, _, 6, by omega, hB1, rfl, by decide, by decide, fun p ws zs2 hl hw hB2 => ?_⟩
  exact hP hill ws zs2 hne (by omega) (fun x hx => by have := hr x hx; omega) (by omega) (fun w h => by have := hw w h; omega) (hB2.mono (by omega))
theorem s43 (hl : hill.length ≤ 8) (hr : ∀ x ∈ hill, x.natAbs < 10 ^ 20) (hP : ∀ p, P.nx (rho w0 w1 w2 w3 (vT hill) w5 (some (.own p (strsD [dnT hill]))) w10 v11 w12 w13)) : T_law_4_3 P (rho w0 w1 w2 w3 (vT hill) w5 w7 w10 v11 w12 w13) := by
  refine lc_mp hill D.int (fun i => .str (Sx (numT i))) rfl (fun i hi K hK => ⟨log_ok (hr i hi), ?_⟩) (by omega) ?_
  · rw [str_int]; exact hK _ rfl
  refine ⟨(hill.map numT).map Sx, by rw [List.map_map, List.map_map]; rfl, ?_, ?_⟩
  · have h1 := sum_len (ps := hill.map numT) (k := 21) fun p hp => by
      obtain ⟨i, hi, rfl⟩ := List.mem_map.mp hp
      exact numT_len (hr i hi)
    have l1 : (" " : Str).length = 1 := by decide +kernel
    rw [l1, List.length_map, List.length_map]
    rw [List.length_map] at h1
    omega
  · rw [join_sx]
    exact ⟨by show (1 : Nat) ≤ sizeLine; decide, fun p => hP p⟩
theorem eqv_wn (ws : List Wd) : (D.lst (windsD ws)).eqv (D.lst []) = decide (ws = []) := by
  cases ws with
  | nil => rfl
  | cons w r => rfl
theorem sh_n : (D.lst []).sh := by unfold D.sh; decide +kernel
theorem s44 (hl : ws.length ≤ 6) (hr : ∀ w ∈ ws, 0 ≤ w.2 ∧ w.2 < 10 ^ 20) (hP : P.nx (rho w0 w1 w2 w3 w4 (vW ws) (some (.own p (strsD [dnT hill, aT ws]))) w10 v11 w12 w13)) : T_law_4_4 P (rho w0 w1 w2 w3 w4 (vW ws) (some (.own p (strsD [dnT hill]))) w10 v11 w12 w13) := by
  refine ⟨by show (0 : Nat) ≤ sizeLine; decide, sh_winds ws, sh_n, ?_⟩
  rw [eqv_wn]
  refine ifB (fun h => ?_) (fun h => ?_)
  · have h : (!decide (ws = [])) = true := h
    have hne : ws ≠ [] := by simpa using h
    refine lc_mp ws (fun w => windD w.1 w.2) (fun w => .str (Sx (winT w))) rfl (fun w hw K hK => ?_) (by omega) ?_
    · obtain ⟨c, s⟩ := w
      have hs := hr _ hw
      have hs0 : 0 ≤ s := hs.1
      have hs1 : s < 10 ^ 20 := hs.2
      have e0 : s = ((s.toNat : Nat) : Int) := by omega
      have hlen : (numL s.toNat).length ≤ 20 := numL_len20 (by omega)
      have es : ((toString s : String) : Str) = Sx (numL s.toNat) := by
        have := str_num s.toNat
        rw [← e0] at this
        exact this
      have key : ∀ k : Nat, k = (if c = true then 99 else 102) → (⟨#[k]⟩ : Str) ++ ((toString s : String) : Str) = Sx (winT (c, s)) := fun k ek => by
        rw [es, ek]
        exact Sx_app [_] _
      refine ⟨rfl, rfl, ?_⟩
      cases c with
      | true =>
        refine ⟨by show (3 : Nat) ≤ sizeLine; decide, 99, (by show atI (wordS true).cps.toList 0 = some 99; decide +kernel), log_ok (by omega), ?_⟩
        refine ⟨by rw [es, Sx_len]; exact szl (by show 1 + _ ≤ 1000; omega), ?_⟩
        rw [key 99 rfl]
        exact hK _ rfl
      | false =>
        refine ⟨by show (4 : Nat) ≤ sizeLine; decide, 102, (by show atI (wordS false).cps.toList 0 = some 102; decide +kernel), log_ok (by omega), ?_⟩
        refine ⟨by rw [es, Sx_len]; exact szl (by show 1 + _ ≤ 1000; omega), ?_⟩
        rw [key 102 rfl]
        exact hK _ rfl
    · have e : aT ws = TL.joinL [32] (ws.map winT) := if_neg hne
      rw [e] at hP
      refine ⟨(ws.map winT).map Sx, by rw [List.map_map, List.map_map]; rfl, ?_, ?_⟩
      · have h1 := sum_len (ps := ws.map winT) (k := 21) fun p hp => by
          obtain ⟨i, hi, rfl⟩ := List.mem_map.mp hp
          exact winT_len (hr i hi).1 (hr i hi).2
        have l1 : (" " : Str).length = 1 := by decide +kernel
        rw [l1, List.length_map, List.length_map]
        rw [List.length_map] at h1
        omega
      · rw [join_sx]
        exact ⟨_, rfl, by show (1 : Nat) < sizeLine; decide, hP⟩
  · have h : (!decide (ws = [])) = false := h
    have hnil : ws = [] := by simpa using h
    have e : aT ws = [45] := if_pos hnil
    rw [e] at hP
    rw [lit_m]
    exact ⟨_, rfl, by show (1 : Nat) < sizeLine; decide, hP⟩
abbrev two (hill : List Int) (ws : List Wd) : List (List Nat) := [dnT hill, aT ws]
theorem s45 (hl : hill.length ≤ 8) (hr : ∀ x ∈ hill, x.natAbs < 10 ^ 20) (hwl : ws.length ≤ 6) (hw : ∀ w ∈ ws, 0 ≤ w.2 ∧ w.2 < 10 ^ 20) (hP : P.nx (rho w0 w1 w2 w3 (vT hill) (vW ws) w7 (vTx (two hill ws ++ two hill ws)) v11 w12 w13)) : T_law_4_5 g_dune_text g_almanac_text P (rho w0 w1 w2 w3 (vT hill) (vW ws) w7 w10 v11 w12 w13) :=
  ⟨rfl, _, hill, rfl, .inl rfl, by omega, hr, rfl, _, ws, rfl, .inl rfl, by omega, hw, rfl, rfl, _, hill, rfl, .inr rfl, by omega, hr, rfl, rfl, _, ws, rfl, .inr rfl, by omega, hw, by show (4 : Nat) ≤ sizeLine; decide, hP⟩
theorem s46 (h1 : Plain (dnT hill)) (h2 : Plain (aT ws)) (hP : P.nx (rho w0 w1 w2 w3 w4 w5 (vTx (two hill ws)) (vTx (two hill ws ++ two hill ws)) v11 w12 w13)) : T_law_4_6 (gS 4) P (rho w0 w1 w2 w3 w4 w5 (some (.own p (strsD (two hill ws)))) (vTx (two hill ws ++ two hill ws)) v11 w12 w13) := by
  refine ⟨by decide, by decide, by show (2 : Nat) ≤ 1000; decide, rfl, .lst (strsD (two hill ws ++ two hill ws)), rfl, ⟨by show (4 : Nat) ≤ 1000; decide, fun x hx => ?_⟩, hP⟩
  obtain ⟨l, hl, rfl⟩ := List.mem_map.mp hx
  have ha : ∀ c ∈ l, c < 128 := by
    simp only [List.cons_append, List.nil_append, List.mem_cons, List.not_mem_nil, or_false] at hl
    rcases hl with rfl | rfl | rfl | rfl
    · exact h1.asc
    · exact h2.asc
    · exact h1.asc
    · exact h2.asc
  exact sh_sx ha
theorem s47 (hne : hill ≠ []) (hl : hill.length ≤ 8) (hwl : ws.length ≤ 6) (hw : ∀ w ∈ ws, 0 ≤ w.2 ∧ w.2 < 10 ^ 20) (h1 : Plain (dnT hill)) (h2 : Plain (aT ws)) (hP : P.nx (rho w0 w1 w2 w3 (vT hill) (vW ws) (vTx (two hill ws)) w10 v11 w12 w13)) : T_law_4_7 g_dune_in g_almanac_in (gS 4) P (rho w0 w1 w2 w3 (vT hill) (vW ws) (vTx (two hill ws)) w10 v11 w12 w13) := by
  obtain ⟨b1, b2⟩ := dn_back hne
  refine ⟨_, atI_zero _ _, rfl, rfl, dnT hill, rfl, h1.tx, b1, _, (atI_at (j := 1) rfl), rfl, rfl, aT ws, rfl, h2.tx, ?_⟩
  rw [b2]
  have fin : ∀ c : Cell, c.froz = .lst (windsD ws) → _ := fun c hc => hP
  have okk : okN 3 (.lst [tD hill, .lst (windsD ws)]) := okN_two (okN_tD 1 (by omega)) (okN_winds2 (by omega))
  by_cases hn : ws = []
  · subst hn
    exact .inl ⟨rfl, fun p => ⟨by show (2 : Nat) ≤ sizeLine; decide, by show (2 : Nat) ≤ sizeLine; decide, rfl, _, rfl, okk, hP⟩⟩
  · obtain ⟨a1, a2, a3⟩ := a_back hn fun w h => (hw w h).1
    refine .inr ⟨a3, a1, fun p => ?_⟩
    rw [a2]
    exact ⟨by show (2 : Nat) ≤ sizeLine; decide, by show (2 : Nat) ≤ sizeLine; decide, rfl, _, rfl, okk, hP⟩
theorem asSeq_lst {xs : List D} {k : List D → Prop} (h : k xs) : asSeq (.lst xs) k := h
theorem rep_len (m : Nat) (xs : List D) : ((List.replicate m xs).flatten).length = m * xs.length := by
  induction m with
  | zero => simp
  | succ m ih => rw [List.replicate_succ, List.flatten_cons, List.length_append, ih, Nat.succ_mul]; omega
theorem s48 {odd : List (List Nat)} (o1 : ∀ l ∈ odd, TxO l) (o2 : odd.length = 32) (hB : Bx n zs) (hn : n ≤ 1000000) (h1 : Plain (dnT hill)) (h2 : Plain (aT ws)) (hP : ∀ all zs, (∀ l ∈ all, TxO l) → all.length = 58 → Bx (n + 144) zs → P.nx (rho w0 (vTx odd) w2 (vo a0 zs) w4 w5 (vTx (two hill ws)) w10 v11 (vTx all) w13)) : T_law_4_8 g__law_spoilt P (rho w0 (vTx odd) w2 (vo a0 zs) w4 w5 (vTx (two hill ws)) w10 v11 w12 w13) := by
  have key : ∀ ds : List D, ds.length = 24 → (∀ d ∈ ds, ∃ l, d = .str (Sx l) ∧ Plain l) → lcW [11] (hName 11) pYes (pFrz (pCallB 3 2 g__law_spoilt (pCons (pVar 11) pNil))) (fun acc ρ2 => (strsD odd ++ strsD (two hill ws)).length + acc.length ≤ sizeLine ∧ P.nx (ρ2.set 12 (some (.val (.lst ((strsD odd ++ strsD (two hill ws)) ++ acc)))))) ds [] (rho w0 (vTx odd) w2 (vo a0 zs) w4 w5 (vTx (two hill ws)) w10 v11 w12 w13) := by
    intro ds hl hds
    refine lcW_txt (fun zs => (rho w0 (vTx odd) w2 (vo a0 zs) w4 w5 (vTx (two hill ws)) w10 v11 w12 w13)) 6 2000000 (fun d => ∃ l, d = .str (Sx l) ∧ Plain l) (fun d zs m K hd hz hm hK => ?_) ds [] n zs hB (by rw [hl]; omega) hds (by rw [hl]; decide) fun out zs' ho hol hz => ?_
    · obtain ⟨l, rfl, hp⟩ := hd
      exact ⟨zs, rfl, rfl, m, l, by omega, hz, rfl, hp.ne, hp.len, hp.asc, hp.mb, fun l' zs' ht hz' => hK l' zs' _ hz' ht (by cases v11 <;> rfl)⟩
    · rw [hl] at hol hz
      have e : (strsD odd ++ strsD (two hill ws)) ++ strsD out = strsD ((odd ++ two hill ws) ++ out) := by
        unfold strsD
        rw [List.map_append, List.map_append]
      refine ⟨by rw [List.length_append, List.length_map, o2]; exact szl (by show 32 + 2 + (strsD out).length ≤ 1000; rw [List.length_map, hol]; decide), ?_⟩
      show P.nx (rho w0 (vTx odd) w2 (vo a0 zs') w4 w5 (vTx (two hill ws)) w10 v11 (some (.val (.lst ((strsD odd ++ strsD (two hill ws)) ++ strsD out)))) w13)
      rw [e]
      refine hP _ zs' (fun l hl => ?_) (by rw [List.length_append, List.length_append, o2, hol]; rfl) hz
      rcases List.mem_append.mp hl with hl | hl
      · rcases List.mem_append.mp hl with hl | hl
        · exact o1 l hl
        · simp only [List.mem_cons, List.not_mem_nil, or_false] at hl
          rcases hl with rfl | rfl
          · exact h1.tx
          · exact h2.tx
      · exact ho l hl
  refine ⟨szl (by rw [List.length_map, o2]; show 32 + 2 ≤ 1000; decide), by decide, by decide, by show (2 : Nat) ≤ 1000; decide, ?_⟩
  have e24 : ((List.replicate (Int.toNat 12) (strsD (two hill ws))).flatten).length = 24 := by rw [rep_len]; rfl
  have hm : ∀ d ∈ (List.replicate (Int.toNat 12) (strsD (two hill ws))).flatten, ∃ l, d = .str (Sx l) ∧ Plain l := fun d hd => by
    obtain ⟨L, hL, hd⟩ := List.mem_flatten.mp hd
    have := (List.mem_replicate.mp hL).2
    subst this
    have hd : d ∈ [D.str (Sx (dnT hill)), D.str (Sx (aT ws))] := hd
    simp only [List.mem_cons, List.not_mem_nil, or_false] at hd
    rcases hd with rfl | rfl
    · exact ⟨_, rfl, h1⟩
    · exact ⟨_, rfl, h2⟩
  refine asSeq_lst ?_
  generalize (List.replicate (Int.toNat 12) (strsD (two hill ws))).flatten = ds at e24 hm ⊢
  exact key ds e24 hm
theorem ok_dOf {l : List Nat} (h : TxO l) : okN 2 (dOf l) := by
  unfold dOf
  have := wds_len l
  have h3 := h.len
  split
  · trivial
  · exact okN_tD 1 (by rw [List.length_map]; omega)
theorem ok_wOf {l : List Nat} (h : TxO l) : okN 2 (wOf l) := by
  unfold wOf
  have := wds_len l
  have h3 := h.len
  split
  · exact ⟨by show (0 : Nat) ≤ 1000; decide, fun x hx => nomatch hx⟩
  · split
    · trivial
    · exact okN_winds2 (by rw [List.length_map]; omega)
theorem s49 {all : List (List Nat)} (ht : ∀ l ∈ all, TxO l) (hP : ∀ v11 w13, P.nx (rho w0 w1 w2 w3 w4 w5 w7 w10 v11 (vTx all) w13)) : T_law_4_9 (gS 4) g__law_dune_of g__law_winds_of g__law_read P (rho w0 w1 w2 w3 w4 w5 w7 w10 v11 (vTx all) w13) := by
  refine fr_mp all (fun l => D.str (Sx l)) (fun r ρ => (∀ l ∈ r, TxO l) ∧ ∃ v11 w13, ρ = (rho w0 w1 w2 w3 w4 w5 w7 w10 v11 (vTx all) w13)) rfl ⟨ht, _, _, rfl⟩ (fun l r ρ K hI hK => ?_) (fun ρ hI => ?_)
  · obtain ⟨hr, v11, w13, rfl⟩ := hI
    have hl := hr l (by simp)
    refine ⟨rfl, l, rfl, hl, rfl, l, rfl, hl, fun c hc => ?_⟩
    dsimp only
    rw [hc]
    refine ⟨by show (2 : Nat) ≤ sizeLine; decide, ?_⟩
    refine ⟨rfl, l, true, rfl, hl, rfl, l, false, rfl, hl, by show (2 : Nat) ≤ sizeLine; decide, rfl, .lst [dOf l, wOf l], rfl, okN_two (ok_dOf hl) (ok_wOf hl), ?_⟩
    exact hK _ ⟨fun x hx => hr x (by simp [hx]), some (.str (Sx l)), _, rfl⟩
  · obtain ⟨_, v11, w13, rfl⟩ := hI
    exact hP _ _
theorem rd_law : ∀ ds C, ds.length = 1 → g_law ds C → T_law g_dune_text g_almanac_text g_dune_in g_almanac_in g__law_box (gS 4) g__law_dune g__law_winds g__law_dune_of g__law_winds_of g__law_read g__law_spoilt (EA C) (startA N_law ds) := by
  rintro ds C - ⟨ns, rfl, hns, hC⟩
  refine s1 (w0 := some (.val (.scr ns))) (w1 := none) (w2 := none) (w3 := none) (w4 := none) (w5 := none) (w7 := none) (w10 := none) (v11 := none) (w12 := none) (w13 := none) ?_
  refine s2 ?_
  refine s3 ?_
  have o1 := odd_tx
  have o2 := odd_len
  generalize oddL = odd at o1 o2 ⊢
  refine ⟨by show (-(2 ^ 62) : Int) ≤ 1 + min 2 _; omega, by show (1 + min 2 _ : Int) < 2 ^ 62; omega, ?_⟩
  refine fr_rg (1 + min 2 (ns.length : Int)).toNat (fun j ρ => ∃ w2 w3 w4 w5 w7 w10 v11 w12 w13, ρ = (rho (some (.val (.scr ns))) (vTx odd) w2 w3 w4 w5 w7 w10 v11 w12 w13)) rfl ⟨none, none, none, none, none, none, none, none, none, rfl⟩ (fun k ρ K hk hI hK => ?_) (fun ρ hI => hC)
  obtain ⟨w2, w3, w4, w5, w7, w10, v11, w12, w13, rfl⟩ := hI
  refine ⟨rfl, ns, k, rfl, by omega, by omega, fun a0 zs hB => ?_⟩
  refine s42 hB (by omega) fun hill ws zs hne hl hr hwl hw hB => ?_
  have h1 := dn_plain hne hl hr
  have h2 := a_plain hwl hw
  refine s43 hl hr fun p => ?_
  refine s44 hwl hw ?_
  refine s45 hl hr hwl hw ?_
  refine s46 h1 h2 ?_
  refine s47 hne hl hwl hw h1 h2 ?_
  refine s48 o1 o2 hB (by omega) h1 h2 fun all zs ht _ hB => ?_
  refine s49 ht fun v11 w13 => ?_
  exact hK _ ⟨_, _, _, _, _, _, _, _, _, rfl⟩
end
end Pl
namespace Pl
open PySem PySem.Spec PyProof.Rows L2
def topS (i : Nat) : Stmt := PySem.Challenge.pw_dunebooks_k65_texts_of_dunes_and_almanac.main.body.getD i (.Pass ⟨0, 0, 0, 0⟩)
abbrev s_figures_of : Stmt := topS 6
abbrev NN_figures_of : List Str := [("number" : Str), ("blocks" : Str), ("left" : Str), ("block" : Str)]
theorem sc_figures_of : FnScope NN_figures_of ["number"] (defScope s_figures_of) := ⟨rfl, rfl, rfl, by decide +kernel, rfl, by decide +kernel, by decide +kernel⟩
abbrev s_number_of_figures : Stmt := topS 7
abbrev NN_number_of_figures : List Str := [("figures" : Str), ("head" : Str), ("number" : Str), ("at" : Str)]
theorem sc_number_of_figures : FnScope NN_number_of_figures ["figures"] (defScope s_number_of_figures) := ⟨rfl, rfl, rfl, by decide +kernel, rfl, by decide +kernel, by decide +kernel⟩
abbrev s_is_figures : Stmt := topS 8
abbrev NN_is_figures : List Str := [("word" : Str), ("sign" : Str)]
theorem sc_is_figures : FnScope NN_is_figures ["word"] (defScope s_is_figures) := ⟨rfl, rfl, rfl, by decide +kernel, rfl, by decide +kernel, by decide +kernel⟩
abbrev s_number_text : Stmt := topS 9
abbrev NN_number_text : List Str := [("number" : Str)]
theorem sc_number_text : FnScope NN_number_text ["number"] (defScope s_number_text) := ⟨rfl, rfl, rfl, by decide +kernel, rfl, by decide +kernel, by decide +kernel⟩
abbrev s_is_number_word : Stmt := topS 10
abbrev NN_is_number_word : List Str := [("word" : Str)]
theorem sc_is_number_word : FnScope NN_is_number_word ["word"] (defScope s_is_number_word) := ⟨rfl, rfl, rfl, by decide +kernel, rfl, by decide +kernel, by decide +kernel⟩
abbrev s_number_in : Stmt := topS 11
abbrev NN_number_in : List Str := [("word" : Str)]
theorem sc_number_in : FnScope NN_number_in ["word"] (defScope s_number_in) := ⟨rfl, rfl, rfl, by decide +kernel, rfl, by decide +kernel, by decide +kernel⟩
abbrev s_wind_text : Stmt := topS 12
abbrev NN_wind_text : List Str := [("wind" : Str), ("word" : Str), ("slope" : Str)]
theorem sc_wind_text : FnScope NN_wind_text ["wind"] (defScope s_wind_text) := ⟨rfl, rfl, rfl, by decide +kernel, rfl, by decide +kernel, by decide +kernel⟩
abbrev s_is_wind_word : Stmt := topS 13
abbrev NN_is_wind_word : List Str := [("word" : Str)]
theorem sc_is_wind_word : FnScope NN_is_wind_word ["word"] (defScope s_is_wind_word) := ⟨rfl, rfl, rfl, by decide +kernel, rfl, by decide +kernel, by decide +kernel⟩
abbrev s_wind_in : Stmt := topS 14
abbrev NN_wind_in : List Str := [("word" : Str)]
theorem sc_wind_in : FnScope NN_wind_in ["word"] (defScope s_wind_in) := ⟨rfl, rfl, rfl, by decide +kernel, rfl, by decide +kernel, by decide +kernel⟩
abbrev s_dune_text : Stmt := topS 15
abbrev NN_dune_text : List Str := [("dune" : Str), ("height" : Str)]
theorem sc_dune_text : FnScope NN_dune_text ["dune"] (defScope s_dune_text) := ⟨rfl, rfl, rfl, by decide +kernel, rfl, by decide +kernel, by decide +kernel⟩
abbrev s_almanac_text : Stmt := topS 16
abbrev NN_almanac_text : List Str := [("almanac" : Str), ("wind" : Str)]
theorem sc_almanac_text : FnScope NN_almanac_text ["almanac"] (defScope s_almanac_text) := ⟨rfl, rfl, rfl, by decide +kernel, rfl, by decide +kernel, by decide +kernel⟩
abbrev s_dune_in : Stmt := topS 17
abbrev NN_dune_in : List Str := [("text" : Str), ("words" : Str), ("at" : Str), ("word" : Str)]
theorem sc_dune_in : FnScope NN_dune_in ["text"] (defScope s_dune_in) := ⟨rfl, rfl, rfl, by decide +kernel, rfl, by decide +kernel, by decide +kernel⟩
abbrev s_almanac_in : Stmt := topS 18
abbrev NN_almanac_in : List Str := [("text" : Str), ("words" : Str), ("at" : Str), ("word" : Str)]
theorem sc_almanac_in : FnScope NN_almanac_in ["text"] (defScope s_almanac_in) := ⟨rfl, rfl, rfl, by decide +kernel, rfl, by decide +kernel, by decide +kernel⟩
abbrev s__law_cell_at : Stmt := topS 20
abbrev NN__law_cell_at : List Str := [("_law_script" : Str), ("_law_k" : Str)]
theorem sc__law_cell_at : FnScope NN__law_cell_at ["_law_script", "_law_k"] (defScope s__law_cell_at) := ⟨rfl, rfl, rfl, by decide +kernel, rfl, by decide +kernel, by decide +kernel⟩
abbrev s__law_box : Stmt := topS 21
abbrev NN__law_box : List Str := [("_law_script" : Str), ("_law_k" : Str), ("_law_cell" : Str)]
theorem sc__law_box : FnScope NN__law_box ["_law_script", "_law_k"] (defScope s__law_box) := ⟨rfl, rfl, rfl, by decide +kernel, rfl, by decide +kernel, by decide +kernel⟩
abbrev s__law_take : Stmt := topS 22
abbrev NN__law_take : List Str := [("_law_box_here" : Str), ("_law_size" : Str), ("_law_told" : Str), ("_law_once" : Str), ("_law_twice" : Str)]
theorem sc__law_take : FnScope NN__law_take ["_law_box_here", "_law_size"] (defScope s__law_take) := ⟨rfl, rfl, rfl, by decide +kernel, rfl, by decide +kernel, by decide +kernel⟩
abbrev s__law_of : Stmt := topS 23
abbrev NN__law_of : List Str := [("_law_box_here" : Str), ("_law_some" : Str)]
theorem sc__law_of : FnScope NN__law_of ["_law_box_here", "_law_some"] (defScope s__law_of) := ⟨rfl, rfl, rfl, by decide +kernel, rfl, by decide +kernel, by decide +kernel⟩
abbrev s__law_same : Stmt := topS 24
abbrev NN__law_same : List Str := [("_law_told" : Str), ("_law_due" : Str), ("_law_here" : Str), ("_law_two" : Str)]
theorem sc__law_same : FnScope NN__law_same ["_law_told", "_law_due"] (defScope s__law_same) := ⟨rfl, rfl, rfl, by decide +kernel, rfl, by decide +kernel, by decide +kernel⟩
abbrev s__law_dune : Stmt := topS 25
abbrev NN__law_dune : List Str := [("_law_box_here" : Str), ("_law_size" : Str), ("_law_many" : Str), ("_law_wide" : Str), ("_law_told" : Str), ("_law_pole" : Str)]
theorem sc__law_dune : FnScope NN__law_dune ["_law_box_here", "_law_size"] (defScope s__law_dune) := ⟨rfl, rfl, rfl, by decide +kernel, rfl, by decide +kernel, by decide +kernel⟩
abbrev s__law_slope : Stmt := topS 26
abbrev NN__law_slope : List Str := [("_law_box_here" : Str)]
theorem sc__law_slope : FnScope NN__law_slope ["_law_box_here"] (defScope s__law_slope) := ⟨rfl, rfl, rfl, by decide +kernel, rfl, by decide +kernel, by decide +kernel⟩
abbrev s__law_winds : Stmt := topS 27
abbrev NN__law_winds : List Str := [("_law_box_here" : Str), ("_law_size" : Str), ("_law_turn" : Str)]
theorem sc__law_winds : FnScope NN__law_winds ["_law_box_here", "_law_size"] (defScope s__law_winds) := ⟨rfl, rfl, rfl, by decide +kernel, rfl, by decide +kernel, by decide +kernel⟩
abbrev s__law_is_figures : Stmt := topS 28
abbrev NN__law_is_figures : List Str := [("_law_sign" : Str), ("_law_letter" : Str)]
theorem sc__law_is_figures : FnScope NN__law_is_figures ["_law_sign"] (defScope s__law_is_figures) := ⟨rfl, rfl, rfl, by decide +kernel, rfl, by decide +kernel, by decide +kernel⟩
abbrev s__law_dune_of : Stmt := topS 29
abbrev NN__law_dune_of : List Str := [("_law_words" : Str), ("_law_found" : Str), ("_law_at" : Str), ("_law_sign" : Str), ("_law_bare" : Str)]
theorem sc__law_dune_of : FnScope NN__law_dune_of ["_law_words"] (defScope s__law_dune_of) := ⟨rfl, rfl, rfl, by decide +kernel, rfl, by decide +kernel, by decide +kernel⟩
abbrev s__law_winds_of : Stmt := topS 30
abbrev NN__law_winds_of : List Str := [("_law_words" : Str), ("_law_found" : Str), ("_law_at" : Str), ("_law_sign" : Str)]
theorem sc__law_winds_of : FnScope NN__law_winds_of ["_law_words"] (defScope s__law_winds_of) := ⟨rfl, rfl, rfl, by decide +kernel, rfl, by decide +kernel, by decide +kernel⟩
abbrev s__law_read : Stmt := topS 31
abbrev NN__law_read : List Str := [("_law_words" : Str), ("_law_is_dune_text" : Str), ("_law_found" : Str), ("_law_caught" : Str), ("error" : Str)]
theorem sc__law_read : FnScope NN__law_read ["_law_words", "_law_is_dune_text"] (defScope s__law_read) := ⟨rfl, rfl, rfl, by decide +kernel, rfl, by decide +kernel, by decide +kernel⟩
abbrev s__law_spoilt : Stmt := topS 32
abbrev NN__law_spoilt : List Str := [("_law_box_here" : Str), ("_law_words" : Str), ("_law_at" : Str), ("_law_way" : Str), ("_law_letter" : Str)]
theorem sc__law_spoilt : FnScope NN__law_spoilt ["_law_box_here", "_law_words"] (defScope s__law_spoilt) := ⟨rfl, rfl, rfl, by decide +kernel, rfl, by decide +kernel, by decide +kernel⟩
abbrev s_law : Stmt := topS 33
abbrev NN_law : List Str := [("_law_script" : Str), ("_law_odd" : Str), ("_law_k" : Str), ("_law_box_here" : Str), ("_law_hill" : Str), ("_law_winds_here" : Str), ("_law_level" : Str), ("_law_texts" : Str), ("_law_sign" : Str), ("_law_slope_here" : Str), ("_law_told" : Str), ("_law_words" : Str), ("_law_some" : Str), ("_law_due" : Str)]
theorem sc_law : FnScope NN_law ["_law_script"] (defScope s_law) := ⟨rfl, rfl, rfl, by decide +kernel, rfl, by decide +kernel, by decide +kernel⟩
abbrev si_BadText : Stmt := inS (topS 1) 0
set_option maxHeartbeats 4000000 in
structure Tx (K : PySem.W.Frag) (mg : Str → Option Value) where
  f_figures_of : Addr
  fd_figures_of : FuncData
  F_figures_of : Fun K "figures_of" "figures_of" s_figures_of f_figures_of fd_figures_of
  m_figures_of : mg "figures_of" = some (.ref f_figures_of)
  b_figures_of : L2.Binds K fd_figures_of ["number"] []
  f_number_of_figures : Addr
  fd_number_of_figures : FuncData
  F_number_of_figures : Fun K "number_of_figures" "number_of_figures" s_number_of_figures f_number_of_figures fd_number_of_figures
  m_number_of_figures : mg "number_of_figures" = some (.ref f_number_of_figures)
  b_number_of_figures : L2.Binds K fd_number_of_figures ["figures"] []
  f_is_figures : Addr
  fd_is_figures : FuncData
  F_is_figures : Fun K "is_figures" "is_figures" s_is_figures f_is_figures fd_is_figures
  m_is_figures : mg "is_figures" = some (.ref f_is_figures)
  b_is_figures : L2.Binds K fd_is_figures ["word"] []
  f_number_text : Addr
  fd_number_text : FuncData
  F_number_text : Fun K "number_text" "number_text" s_number_text f_number_text fd_number_text
  m_number_text : mg "number_text" = some (.ref f_number_text)
  b_number_text : L2.Binds K fd_number_text ["number"] []
  f_is_number_word : Addr
  fd_is_number_word : FuncData
  F_is_number_word : Fun K "is_number_word" "is_number_word" s_is_number_word f_is_number_word fd_is_number_word
  m_is_number_word : mg "is_number_word" = some (.ref f_is_number_word)
  b_is_number_word : L2.Binds K fd_is_number_word ["word"] []
  f_number_in : Addr
  fd_number_in : FuncData
  F_number_in : Fun K "number_in" "number_in" s_number_in f_number_in fd_number_in
  m_number_in : mg "number_in" = some (.ref f_number_in)
  b_number_in : L2.Binds K fd_number_in ["word"] []
  f_wind_text : Addr
  fd_wind_text : FuncData
  F_wind_text : Fun K "wind_text" "wind_text" s_wind_text f_wind_text fd_wind_text
  m_wind_text : mg "wind_text" = some (.ref f_wind_text)
  b_wind_text : L2.Binds K fd_wind_text ["wind"] []
  f_is_wind_word : Addr
  fd_is_wind_word : FuncData
  F_is_wind_word : Fun K "is_wind_word" "is_wind_word" s_is_wind_word f_is_wind_word fd_is_wind_word
  m_is_wind_word : mg "is_wind_word" = some (.ref f_is_wind_word)
  b_is_wind_word : L2.Binds K fd_is_wind_word ["word"] []
  f_wind_in : Addr
  fd_wind_in : FuncData
  F_wind_in : Fun K "wind_in" "wind_in" s_wind_in f_wind_in fd_wind_in
  m_wind_in : mg "wind_in" = some (.ref f_wind_in)
  b_wind_in : L2.Binds K fd_wind_in ["word"] []
  f_dune_text : Addr
  fd_dune_text : FuncData
  F_dune_text : Fun K "dune_text" "dune_text" s_dune_text f_dune_text fd_dune_text
  m_dune_text : mg "dune_text" = some (.ref f_dune_text)
  b_dune_text : L2.Binds K fd_dune_text ["dune"] []
  f_almanac_text : Addr
  fd_almanac_text : FuncData
  F_almanac_text : Fun K "almanac_text" "almanac_text" s_almanac_text f_almanac_text fd_almanac_text
  m_almanac_text : mg "almanac_text" = some (.ref f_almanac_text)
  b_almanac_text : L2.Binds K fd_almanac_text ["almanac"] []
  f_dune_in : Addr
  fd_dune_in : FuncData
  F_dune_in : Fun K "dune_in" "dune_in" s_dune_in f_dune_in fd_dune_in
  m_dune_in : mg "dune_in" = some (.ref f_dune_in)
  b_dune_in : L2.Binds K fd_dune_in ["text"] []
  f_almanac_in : Addr
  fd_almanac_in : FuncData
  F_almanac_in : Fun K "almanac_in" "almanac_in" s_almanac_in f_almanac_in fd_almanac_in
  m_almanac_in : mg "almanac_in" = some (.ref f_almanac_in)
  b_almanac_in : L2.Binds K fd_almanac_in ["text"] []
  f__law_cell_at : Addr
  fd__law_cell_at : FuncData
  F__law_cell_at : Fun K "_law_cell_at" "_law_cell_at" s__law_cell_at f__law_cell_at fd__law_cell_at
  m__law_cell_at : mg "_law_cell_at" = some (.ref f__law_cell_at)
  b__law_cell_at : L2.Binds K fd__law_cell_at ["_law_script", "_law_k"] []
  f__law_box : Addr
  fd__law_box : FuncData
  F__law_box : Fun K "_law_box" "_law_box" s__law_box f__law_box fd__law_box
  m__law_box : mg "_law_box" = some (.ref f__law_box)
  b__law_box : L2.Binds K fd__law_box ["_law_script", "_law_k"] []
  f__law_take : Addr
  fd__law_take : FuncData
  F__law_take : Fun K "_law_take" "_law_take" s__law_take f__law_take fd__law_take
  m__law_take : mg "_law_take" = some (.ref f__law_take)
  b__law_take : L2.Binds K fd__law_take ["_law_box_here", "_law_size"] []
  f__law_of : Addr
  fd__law_of : FuncData
  F__law_of : Fun K "_law_of" "_law_of" s__law_of f__law_of fd__law_of
  m__law_of : mg "_law_of" = some (.ref f__law_of)
  b__law_of : L2.Binds K fd__law_of ["_law_box_here", "_law_some"] []
  f__law_same : Addr
  fd__law_same : FuncData
  F__law_same : Fun K "_law_same" "_law_same" s__law_same f__law_same fd__law_same
  m__law_same : mg "_law_same" = some (.ref f__law_same)
  b__law_same : L2.Binds K fd__law_same ["_law_told", "_law_due"] []
  f__law_dune : Addr
  fd__law_dune : FuncData
  F__law_dune : Fun K "_law_dune" "_law_dune" s__law_dune f__law_dune fd__law_dune
  m__law_dune : mg "_law_dune" = some (.ref f__law_dune)
  b__law_dune : L2.Binds K fd__law_dune ["_law_box_here", "_law_size"] []
  f__law_slope : Addr
  fd__law_slope : FuncData
  F__law_slope : Fun K "_law_slope" "_law_slope" s__law_slope f__law_slope fd__law_slope
  m__law_slope : mg "_law_slope" = some (.ref f__law_slope)
  b__law_slope : L2.Binds K fd__law_slope ["_law_box_here"] []
  f__law_winds : Addr
  fd__law_winds : FuncData
  F__law_winds : Fun K "_law_winds" "_law_winds" s__law_winds f__law_winds fd__law_winds
  m__law_winds : mg "_law_winds" = some (.ref f__law_winds)
  b__law_winds : L2.Binds K fd__law_winds ["_law_box_here", "_law_size"] []
  f__law_is_figures : Addr
  fd__law_is_figures : FuncData
  F__law_is_figures : Fun K "_law_is_figures" "_law_is_figures" s__law_is_figures f__law_is_figures fd__law_is_figures
  m__law_is_figures : mg "_law_is_figures" = some (.ref f__law_is_figures)
  b__law_is_figures : L2.Binds K fd__law_is_figures ["_law_sign"] []
  f__law_dune_of : Addr
  fd__law_dune_of : FuncData
  F__law_dune_of : Fun K "_law_dune_of" "_law_dune_of" s__law_dune_of f__law_dune_of fd__law_dune_of
  m__law_dune_of : mg "_law_dune_of" = some (.ref f__law_dune_of)
  b__law_dune_of : L2.Binds K fd__law_dune_of ["_law_words"] []
  f__law_winds_of : Addr
  fd__law_winds_of : FuncData
  F__law_winds_of : Fun K "_law_winds_of" "_law_winds_of" s__law_winds_of f__law_winds_of fd__law_winds_of
  m__law_winds_of : mg "_law_winds_of" = some (.ref f__law_winds_of)
  b__law_winds_of : L2.Binds K fd__law_winds_of ["_law_words"] []
  f__law_read : Addr
  fd__law_read : FuncData
  F__law_read : Fun K "_law_read" "_law_read" s__law_read f__law_read fd__law_read
  m__law_read : mg "_law_read" = some (.ref f__law_read)
  b__law_read : L2.Binds K fd__law_read ["_law_words", "_law_is_dune_text"] []
  f__law_spoilt : Addr
  fd__law_spoilt : FuncData
  F__law_spoilt : Fun K "_law_spoilt" "_law_spoilt" s__law_spoilt f__law_spoilt fd__law_spoilt
  m__law_spoilt : mg "_law_spoilt" = some (.ref f__law_spoilt)
  b__law_spoilt : L2.Binds K fd__law_spoilt ["_law_box_here", "_law_words"] []
  f_law : Addr
  fd_law : FuncData
  F_law : Fun K "law" "law" s_law f_law fd_law
  m_law : mg "law" = some (.ref f_law)
  b_law : L2.Binds K fd_law ["_law_script"] []
  C_BadText : Addr
  x_BadText : XCl K mg "BadText" C_BadText
  fI_BadText : Addr
  fdI_BadText : FuncData
  iC_BadText : PySem.W.findIn K (.ref C_BadText) "__init__" = some (some (.ref fI_BadText))
  tI_BadText : PySem.W.typeIn K (.ref fI_BadText) = some (.type "function")
  FI_BadText : Fun K "__init__" "BadText.__init__" si_BadText fI_BadText fdI_BadText
  bI_BadText : L2.Binds K fdI_BadText ["self", "at"] []
  vI_BadText : PySem.W.findCls K (.type "ValueError") (.type "type") "__init__" = some (.val (.builtin "ValueError.__init__"))
  z_ValueError : mg "ValueError" = none
  z_abs : mg "abs" = none
  z_all : mg "all" = none
  z_bool : mg "bool" = none
  z_enumerate : mg "enumerate" = none
  z_int : mg "int" = none
  z_isinstance : mg "isinstance" = none
  z_len : mg "len" = none
  z_list : mg "list" = none
  z_min : mg "min" = none
  z_range : mg "range" = none
  z_str : mg "str" = none
  z_tuple : mg "tuple" = none
  z_zip : mg "zip" = none
  m_BLOCK : ∃ t, mg "BLOCK" = some (.int 1000000000000000000000000000000000000000000000000000000000000 t)
  m_FIGURES : ∃ t, mg "FIGURES" = some (.str ("0123456789" : Str) t)
  m_LENGTH : ∃ t, mg "LENGTH" = some (.int 60 t)
section
variable {P : Program} {w : World} {K : PySem.W.Frag} {mg : Str → Option Value} {base : Heap} (Z : Tx K mg)
include Z
set_option maxHeartbeats 4000000 in
theorem bd_figures_of {k : Nat} : ∀ (cdv : Value) (A : Around) (outer : List Env) (s : Shared) (H : Hp) (E : XK), Room k (A.deeper (envOfC "figures_of" (defScope s_figures_of) s.heap.objs.size Z.f_figures_of cdv)) → ∃ t, PPSs (cxOf CX0 P w K mg base NN_figures_of "figures_of" (defScope s_figures_of) Z.f_figures_of cdv A outer s H E).nox (defBody s_figures_of) t (T_figures_of) :=
  fun cdv A outer s H E hr => ⟨_, (ppss_cons (pps_set (i := 1) sc_figures_of.nd (ppc_lst ppa_nil))
    (ppss_cons (pps_set (i := 2) sc_figures_of.nd (ppc_val (ppe_var 0)))
    (ppss_cons (pps_while PassesOwn.never (ppt_cmp cm_ge (ppe_var 2) (ppe_gint (by rfl) Z.m_BLOCK) (nomark _))
    (ppss_cons pps_never (ppss_one pps_never)))
    (ppss_cons (pps_append 1 (ppe_callTy call_str_int cp_strI (by rfl) Z.z_str (by decide +kernel) (ppa_cons (ppe_var 2) ppa_nil)))
    (ppss_one (pps_ret (ppc_val (ppe_join ppe_str (ppe_rev (ppe_var 1))))))))))⟩
set_option maxHeartbeats 4000000 in
theorem bd_number_of_figures {k : Nat} : ∀ (cdv : Value) (A : Around) (outer : List Env) (s : Shared) (H : Hp) (E : XK), Room k (A.deeper (envOfC "number_of_figures" (defScope s_number_of_figures) s.heap.objs.size Z.f_number_of_figures cdv)) → ∃ t, PPSs (cxOf CX0 P w K mg base NN_number_of_figures "number_of_figures" (defScope s_number_of_figures) Z.f_number_of_figures cdv A outer s H E).nox (defBody s_number_of_figures) t (T_number_of_figures) :=
  fun cdv A outer s H E hr => ⟨_, (ppss_cons (pps_set (i := 1) sc_number_of_figures.nd (ppc_val (ppe_mod (ppe_lenO 0 (by rfl) Z.z_len) (ppe_gint (by rfl) Z.m_LENGTH))))
    (ppss_cons (pps_set (i := 2) sc_number_of_figures.nd (ppc_val (ppe_callTy call_int_str cp_intS (by rfl) Z.z_int (by decide +kernel) (ppa_cons (ppe_add ppe_str (ppe_sliceS (ppe_var 0) ppo_none (ppo_some (ppe_var 1)))) ppa_nil))))
    (ppss_cons (pps_for PassesOwn.never rfl (ppi_range3 (by rfl) Z.z_range (ppa_cons (ppe_var 1) (ppa_cons (ppe_lenO 0 (by rfl) Z.z_len) (ppa_cons (ppe_gint (by rfl) Z.m_LENGTH) ppa_nil)))) (ptg_name (i := 3) sc_number_of_figures.nd) (ppss_one pps_never))
    (ppss_one (pps_ret (ppc_move 2))))))⟩
set_option maxHeartbeats 4000000 in
theorem bd_is_figures {k : Nat} : ∀ (cdv : Value) (A : Around) (outer : List Env) (s : Shared) (H : Hp) (E : XK), Room k (A.deeper (envOfC "is_figures" (defScope s_is_figures) s.heap.objs.size Z.f_is_figures cdv)) → ∃ t, PPSs (cxOf CX0 P w K mg base NN_is_figures "is_figures" (defScope s_is_figures) Z.f_is_figures cdv A outer s H E).nox (defBody s_is_figures) t (T_is_figures) :=
  fun cdv A outer s H E hr => ⟨_, (ppss_cons (pps_if (PPW.ppt (ppw_or (ppt_cmp (cm_eq (hu64 hr)) (ppe_var 0) ppe_str (nomark _)) (ppw_or1 (ppt_not (ppt_val (ppe_callB (cr_all rfl) cp_all (by rfl) Z.z_all (by decide +kernel) (ppa_cons (ppe_lcL (own := [("sign", 1)]) rfl sc_is_figures.nd (ppi_str (ppe_var 0)) (blkOk_by (N := NN_is_figures) (sc := defScope s_is_figures) (by decide +kernel)) (fun _ _ _ _ _ => ((ptg_name (i := 1) sc_is_figures.nd)).lift) (fun _ _ _ _ _ => (ppts_nil).lift) (fun _ _ _ _ _ => ((ppe_cmp cm_inSg (ppe_var 1) (ppe_gstr (by rfl) Z.m_FIGURES) rfl)).lift)) ppa_nil)))))))
    (ppss_one (pps_ret (ppc_val ppe_bl)))
    ppss_nil)
    (ppss_one (pps_ret (ppc_val (ppe_or (ppe_cmp (cm_eq (hu64 hr)) (ppe_var 0) ppe_str (nomark _)) (ppe_one (ppe_cmp (cm_ne (hu64 hr)) (ppe_ixO 0 ppe_int) ppe_str (nomark _))))))))⟩
set_option maxHeartbeats 4000000 in
theorem bd_number_text {k : Nat} {g_figures_of : FA} (O_figures_of : FnOk P w K mg base CX0 k Z.f_figures_of Z.fd_figures_of [("number" : Str)] (spA K 1 g_figures_of)) : ∀ (cdv : Value) (A : Around) (outer : List Env) (s : Shared) (H : Hp) (E : XK), Room k (A.deeper (envOfC "number_text" (defScope s_number_text) s.heap.objs.size Z.f_number_text cdv)) → ∃ t, PPSs (cxOf CX0 P w K mg base NN_number_text "number_text" (defScope s_number_text) Z.f_number_text cdv A outer s H E).nox (defBody s_number_text) t (T_number_text g_figures_of) :=
  fun cdv A outer s H E hr => ⟨_, (ppss_one (pps_ret (ppc_val (ppe_ifExp (ppt_cmp cm_lt (ppe_var 0) ppe_int (nomark _)) (ppe_add ppe_str (ppe_frz (ppc_callA O_figures_of hr (by rfl) Z.m_figures_of Z.F_figures_of.kp Z.b_figures_of (ppa_cons (ppe_neg (ppe_var 0)) ppa_nil)))) (ppe_frz (ppc_callA O_figures_of hr (by rfl) Z.m_figures_of Z.F_figures_of.kp Z.b_figures_of (ppa_cons (ppe_var 0) ppa_nil)))))))⟩
set_option maxHeartbeats 4000000 in
theorem bd_is_number_word {k : Nat} {g_is_figures : FA} (O_is_figures : FnOk P w K mg base CX0 k Z.f_is_figures Z.fd_is_figures [("word" : Str)] (spA K 1 g_is_figures)) : ∀ (cdv : Value) (A : Around) (outer : List Env) (s : Shared) (H : Hp) (E : XK), Room k (A.deeper (envOfC "is_number_word" (defScope s_is_number_word) s.heap.objs.size Z.f_is_number_word cdv)) → ∃ t, PPSs (cxOf CX0 P w K mg base NN_is_number_word "is_number_word" (defScope s_is_number_word) Z.f_is_number_word cdv A outer s H E).nox (defBody s_is_number_word) t (T_is_number_word g_is_figures) :=
  fun cdv A outer s H E hr => ⟨_, (ppss_cons (pps_if (ppt_cmp (cm_eq (hu64 hr)) (ppe_sliceS (ppe_var 0) ppo_none (ppo_some ppe_int)) ppe_str (nomark _))
    (ppss_one (pps_ret (ppc_val (ppe_and (ppe_frz (ppc_callA O_is_figures hr (by rfl) Z.m_is_figures Z.F_is_figures.kp Z.b_is_figures (ppa_cons (ppe_sliceS (ppe_var 0) (ppo_some ppe_int) ppo_none) ppa_nil))) (ppe_one (ppe_cmp (cm_ne (hu64 hr)) (ppe_var 0) ppe_str (nomark _)))))))
    ppss_nil)
    (ppss_one (pps_ret (ppc_callA O_is_figures hr (by rfl) Z.m_is_figures Z.F_is_figures.kp Z.b_is_figures (ppa_cons (ppe_var 0) ppa_nil)))))⟩
set_option maxHeartbeats 4000000 in
theorem bd_number_in {k : Nat} {g_number_of_figures : FA} (O_number_of_figures : FnOk P w K mg base CX0 k Z.f_number_of_figures Z.fd_number_of_figures [("figures" : Str)] (spA K 1 g_number_of_figures)) : ∀ (cdv : Value) (A : Around) (outer : List Env) (s : Shared) (H : Hp) (E : XK), Room k (A.deeper (envOfC "number_in" (defScope s_number_in) s.heap.objs.size Z.f_number_in cdv)) → ∃ t, PPSs (cxOf CX0 P w K mg base NN_number_in "number_in" (defScope s_number_in) Z.f_number_in cdv A outer s H E).nox (defBody s_number_in) t (T_number_in g_number_of_figures) :=
  fun cdv A outer s H E hr => ⟨_, (ppss_one (pps_ret (ppc_val (ppe_ifExp (ppt_cmp (cm_eq (hu64 hr)) (ppe_ixO 0 ppe_int) ppe_str (nomark _)) (ppe_neg (ppe_frz (ppc_callA O_number_of_figures hr (by rfl) Z.m_number_of_figures Z.F_number_of_figures.kp Z.b_number_of_figures (ppa_cons (ppe_sliceS (ppe_var 0) (ppo_some ppe_int) ppo_none) ppa_nil)))) (ppe_frz (ppc_callA O_number_of_figures hr (by rfl) Z.m_number_of_figures Z.F_number_of_figures.kp Z.b_number_of_figures (ppa_cons (ppe_var 0) ppa_nil)))))))⟩
set_option maxHeartbeats 4000000 in
theorem bd_wind_text {k : Nat} {g_figures_of : FA} (O_figures_of : FnOk P w K mg base CX0 k Z.f_figures_of Z.fd_figures_of [("number" : Str)] (spA K 1 g_figures_of)) : ∀ (cdv : Value) (A : Around) (outer : List Env) (s : Shared) (H : Hp) (E : XK), Room k (A.deeper (envOfC "wind_text" (defScope s_wind_text) s.heap.objs.size Z.f_wind_text cdv)) → ∃ t, PPSs (cxOf CX0 P w K mg base NN_wind_text "wind_text" (defScope s_wind_text) Z.f_wind_text cdv A outer s H E).nox (defBody s_wind_text) t (T_wind_text g_figures_of) :=
  fun cdv A outer s H E hr => ⟨_, (ppss_cons (pps_asg (ppe_var 0) (ptg_tup (n := 2) rfl (ptgs_cons (ptg_name (i := 1) sc_wind_text.nd) (ptgs_cons (ptg_name (i := 2) sc_wind_text.nd) ptgs_nil))))
    (ppss_one (pps_ret (ppc_val (ppe_add (ppe_ifExp (ppt_cmp (cm_eq (hu64 hr)) (ppe_var 1) ppe_str (nomark _)) ppe_str ppe_str) (ppe_frz (ppc_callA O_figures_of hr (by rfl) Z.m_figures_of Z.F_figures_of.kp Z.b_figures_of (ppa_cons (ppe_var 2) ppa_nil))))))))⟩
set_option maxHeartbeats 4000000 in
theorem bd_is_wind_word {k : Nat} {g_is_figures : FA} (O_is_figures : FnOk P w K mg base CX0 k Z.f_is_figures Z.fd_is_figures [("word" : Str)] (spA K 1 g_is_figures)) : ∀ (cdv : Value) (A : Around) (outer : List Env) (s : Shared) (H : Hp) (E : XK), Room k (A.deeper (envOfC "is_wind_word" (defScope s_is_wind_word) s.heap.objs.size Z.f_is_wind_word cdv)) → ∃ t, PPSs (cxOf CX0 P w K mg base NN_is_wind_word "is_wind_word" (defScope s_is_wind_word) Z.f_is_wind_word cdv A outer s H E).nox (defBody s_is_wind_word) t (T_is_wind_word g_is_figures) :=
  fun cdv A outer s H E hr => ⟨_, (ppss_one (pps_ret (ppc_val (ppe_and (ppe_cmp (cm_inT (hu65 hr)) (ppe_sliceS (ppe_var 0) ppo_none (ppo_some ppe_int)) (ppe_tup (ppa_cons ppe_str (ppa_cons ppe_str ppa_nil))) rfl) (ppe_one (ppe_frz (ppc_callA O_is_figures hr (by rfl) Z.m_is_figures Z.F_is_figures.kp Z.b_is_figures (ppa_cons (ppe_sliceS (ppe_var 0) (ppo_some ppe_int) ppo_none) ppa_nil))))))))⟩
set_option maxHeartbeats 4000000 in
theorem bd_wind_in {k : Nat} {g_number_of_figures : FA} (O_number_of_figures : FnOk P w K mg base CX0 k Z.f_number_of_figures Z.fd_number_of_figures [("figures" : Str)] (spA K 1 g_number_of_figures)) : ∀ (cdv : Value) (A : Around) (outer : List Env) (s : Shared) (H : Hp) (E : XK), Room k (A.deeper (envOfC "wind_in" (defScope s_wind_in) s.heap.objs.size Z.f_wind_in cdv)) → ∃ t, PPSs (cxOf CX0 P w K mg base NN_wind_in "wind_in" (defScope s_wind_in) Z.f_wind_in cdv A outer s H E).nox (defBody s_wind_in) t (T_wind_in g_number_of_figures) :=
  fun cdv A outer s H E hr => ⟨_, (ppss_one (pps_ret (ppc_val (ppe_tup (ppa_cons (ppe_ifExp (ppt_cmp (cm_eq (hu64 hr)) (ppe_ixO 0 ppe_int) ppe_str (nomark _)) ppe_str ppe_str) (ppa_cons (ppe_frz (ppc_callA O_number_of_figures hr (by rfl) Z.m_number_of_figures Z.F_number_of_figures.kp Z.b_number_of_figures (ppa_cons (ppe_sliceS (ppe_var 0) (ppo_some ppe_int) ppo_none) ppa_nil))) ppa_nil))))))⟩
set_option maxHeartbeats 4000000 in
theorem bd_dune_text {k : Nat} {g_number_text : FA} (O_number_text : FnOk P w K mg base CX0 k Z.f_number_text Z.fd_number_text [("number" : Str)] (spA K 1 g_number_text)) : ∀ (cdv : Value) (A : Around) (outer : List Env) (s : Shared) (H : Hp) (E : XK), Room k (A.deeper (envOfC "dune_text" (defScope s_dune_text) s.heap.objs.size Z.f_dune_text cdv)) → ∃ t, PPSs (cxOf CX0 P w K mg base NN_dune_text "dune_text" (defScope s_dune_text) Z.f_dune_text cdv A outer s H E).nox (defBody s_dune_text) t (T_dune_text g_number_text) :=
  fun cdv A outer s H E hr => ⟨_, (ppss_one (pps_ret (ppc_val (ppe_join ppe_str (ppe_lcL (own := [("height", 1)]) rfl sc_dune_text.nd (ppi_seq (ppe_var 0)) (blkOk_by (N := NN_dune_text) (sc := defScope s_dune_text) (by decide +kernel)) (fun _ _ _ _ _ => ((ptg_name (i := 1) sc_dune_text.nd)).lift) (fun _ _ _ _ _ => (ppts_nil).lift) (fun _ _ _ _ _ => ((ppe_frz (ppc_callA O_number_text hr (by rfl) Z.m_number_text Z.F_number_text.kp Z.b_number_text (ppa_cons (ppe_var 1) ppa_nil)))).lift))))))⟩
set_option maxHeartbeats 4000000 in
theorem bd_almanac_text {k : Nat} {g_wind_text : FA} (O_wind_text : FnOk P w K mg base CX0 k Z.f_wind_text Z.fd_wind_text [("wind" : Str)] (spA K 1 g_wind_text)) : ∀ (cdv : Value) (A : Around) (outer : List Env) (s : Shared) (H : Hp) (E : XK), Room k (A.deeper (envOfC "almanac_text" (defScope s_almanac_text) s.heap.objs.size Z.f_almanac_text cdv)) → ∃ t, PPSs (cxOf CX0 P w K mg base NN_almanac_text "almanac_text" (defScope s_almanac_text) Z.f_almanac_text cdv A outer s H E).nox (defBody s_almanac_text) t (T_almanac_text g_wind_text) :=
  fun cdv A outer s H E hr => ⟨_, (ppss_one (pps_ret (ppc_val (ppe_ifExp (ppt_cmp cm_gt (ppe_lenO 0 (by rfl) Z.z_len) ppe_int (nomark _)) (ppe_join ppe_str (ppe_lcL (own := [("wind", 1)]) rfl sc_almanac_text.nd (ppi_seq (ppe_var 0)) (blkOk_by (N := NN_almanac_text) (sc := defScope s_almanac_text) (by decide +kernel)) (fun _ _ _ _ _ => ((ptg_name (i := 1) sc_almanac_text.nd)).lift) (fun _ _ _ _ _ => (ppts_nil).lift) (fun _ _ _ _ _ => ((ppe_frz (ppc_callA O_wind_text hr (by rfl) Z.m_wind_text Z.F_wind_text.kp Z.b_wind_text (ppa_cons (ppe_var 1) ppa_nil)))).lift))) ppe_str))))⟩
set_option maxHeartbeats 4000000 in
theorem bd_dune_in {k : Nat} {g_is_number_word : FA} (O_is_number_word : FnOk P w K mg base CX0 k Z.f_is_number_word Z.fd_is_number_word [("word" : Str)] (spA K 1 g_is_number_word)) {g_number_in : FA} (O_number_in : FnOk P w K mg base CX0 k Z.f_number_in Z.fd_number_in [("word" : Str)] (spA K 1 g_number_in)) : ∀ (cdv : Value) (A : Around) (outer : List Env) (s : Shared) (H : Hp) (E : XK), Room k (A.deeper (envOfC "dune_in" (defScope s_dune_in) s.heap.objs.size Z.f_dune_in cdv)) → ∃ t, PPSs (cxOf CX0 P w K mg base NN_dune_in "dune_in" (defScope s_dune_in) Z.f_dune_in cdv A outer s H E).nox (defBody s_dune_in) t (T_dune_in g_is_number_word g_number_in) :=
  fun cdv A outer s H E hr => ⟨_, (ppss_cons (pps_set (i := 1) sc_dune_in.nd (ppc_val (ppe_split (ppe_var 0) ppe_str)))
    (ppss_cons (pps_for PassesOwn.never rfl (ppi_e (by rfl) Z.z_enumerate (ppa_cons (ppe_var 1) ppa_nil)) (ptg_tup (n := 2) rfl (ptgs_cons (ptg_name (i := 2) sc_dune_in.nd) (ptgs_cons (ptg_name (i := 3) sc_dune_in.nd) ptgs_nil)))
    (ppss_one (pps_if (ppt_not (ppt_val (ppe_frz (ppc_callA O_is_number_word hr (by rfl) Z.m_is_number_word Z.F_is_number_word.kp Z.b_is_number_word (ppa_cons (ppe_var 3) ppa_nil)))))
    (ppss_one pps_never)
    ppss_nil)))
    (ppss_one (pps_ret (ppc_val (ppe_callTy call_tuple_of cp_tup (by rfl) Z.z_tuple (by decide +kernel) (ppa_cons (ppe_lcL (own := [("word", 3)]) rfl sc_dune_in.nd (ppi_seq (ppe_var 1)) (blkOk_by (N := NN_dune_in) (sc := defScope s_dune_in) (by decide +kernel)) (fun _ _ _ _ _ => ((ptg_name (i := 3) sc_dune_in.nd)).lift) (fun _ _ _ _ _ => (ppts_nil).lift) (fun _ _ _ _ _ => ((ppe_frz (ppc_callA O_number_in hr (by rfl) Z.m_number_in Z.F_number_in.kp Z.b_number_in (ppa_cons (ppe_var 3) ppa_nil)))).lift)) ppa_nil)))))))⟩
set_option maxHeartbeats 4000000 in
theorem bd_almanac_in {k : Nat} {g_is_wind_word : FA} (O_is_wind_word : FnOk P w K mg base CX0 k Z.f_is_wind_word Z.fd_is_wind_word [("word" : Str)] (spA K 1 g_is_wind_word)) {g_wind_in : FA} (O_wind_in : FnOk P w K mg base CX0 k Z.f_wind_in Z.fd_wind_in [("word" : Str)] (spA K 1 g_wind_in)) : ∀ (cdv : Value) (A : Around) (outer : List Env) (s : Shared) (H : Hp) (E : XK), Room k (A.deeper (envOfC "almanac_in" (defScope s_almanac_in) s.heap.objs.size Z.f_almanac_in cdv)) → ∃ t, PPSs (cxOf CX0 P w K mg base NN_almanac_in "almanac_in" (defScope s_almanac_in) Z.f_almanac_in cdv A outer s H E).nox (defBody s_almanac_in) t (T_almanac_in g_is_wind_word g_wind_in) :=
  fun cdv A outer s H E hr => ⟨_, (ppss_cons (pps_if (ppt_cmp (cm_eq (hu64 hr)) (ppe_var 0) ppe_str (nomark _))
    (ppss_one (pps_ret (ppc_lst ppa_nil)))
    ppss_nil)
    (ppss_cons (pps_set (i := 1) sc_almanac_in.nd (ppc_val (ppe_split (ppe_var 0) ppe_str)))
    (ppss_cons (pps_for PassesOwn.never rfl (ppi_e (by rfl) Z.z_enumerate (ppa_cons (ppe_var 1) ppa_nil)) (ptg_tup (n := 2) rfl (ptgs_cons (ptg_name (i := 2) sc_almanac_in.nd) (ptgs_cons (ptg_name (i := 3) sc_almanac_in.nd) ptgs_nil)))
    (ppss_one (pps_if (ppt_not (ppt_val (ppe_frz (ppc_callA O_is_wind_word hr (by rfl) Z.m_is_wind_word Z.F_is_wind_word.kp Z.b_is_wind_word (ppa_cons (ppe_var 3) ppa_nil)))))
    (ppss_one pps_never)
    ppss_nil)))
    (ppss_one (pps_ret (ppc_lcL (own := [("word", 3)]) rfl sc_almanac_in.nd (ppi_seq (ppe_var 1)) (blkOk_by (N := NN_almanac_in) (sc := defScope s_almanac_in) (by decide +kernel)) (fun _ _ _ _ _ => ((ptg_name (i := 3) sc_almanac_in.nd)).lift) (fun _ _ _ _ _ => (ppts_nil).lift) (fun _ _ _ _ _ => ((ppe_frz (ppc_callA O_wind_in hr (by rfl) Z.m_wind_in Z.F_wind_in.kp Z.b_wind_in (ppa_cons (ppe_var 3) ppa_nil)))).lift)))))))⟩
set_option maxHeartbeats 4000000 in
theorem bd__law_cell_at {k : Nat} : ∀ (cdv : Value) (A : Around) (outer : List Env) (s : Shared) (H : Hp) (E : XK), Room k (A.deeper (envOfC "_law_cell_at" (defScope s__law_cell_at) s.heap.objs.size Z.f__law_cell_at cdv)) → ∃ t, PPSs (cxOf CX0 P w K mg base NN__law_cell_at "_law_cell_at" (defScope s__law_cell_at) Z.f__law_cell_at cdv A outer s H E).nox (defBody s__law_cell_at) t (T__law_cell_at) :=
  fun cdv A outer s H E hr => ⟨_, (ppss_cons (pps_if (ppt_cmp cm_lt (ppe_var 1) (ppe_lenO 0 (by rfl) Z.z_len) (nomark _))
    (ppss_one (pps_ret (ppc_val (ppe_ixO 0 (ppe_var 1)))))
    ppss_nil)
    (ppss_one (pps_ret (ppc_val ppe_int))))⟩
set_option maxHeartbeats 4000000 in
theorem bd__law_box {k : Nat} {g__law_cell_at : FA} (O__law_cell_at : FnOk P w K mg base CX0 k Z.f__law_cell_at Z.fd__law_cell_at [("_law_script" : Str), ("_law_k" : Str)] (spA K 2 g__law_cell_at)) : ∀ (cdv : Value) (A : Around) (outer : List Env) (s : Shared) (H : Hp) (E : XK), Room k (A.deeper (envOfC "_law_box" (defScope s__law_box) s.heap.objs.size Z.f__law_box cdv)) → ∃ t, PPSs (cxOf CX0 P w K mg base NN__law_box "_law_box" (defScope s__law_box) Z.f__law_box cdv A outer s H E).nox (defBody s__law_box) t (T__law_box g__law_cell_at) :=
  fun cdv A outer s H E hr => ⟨_, (ppss_cons (pps_set (i := 2) sc__law_box.nd (ppc_callA O__law_cell_at hr (by rfl) Z.m__law_cell_at Z.F__law_cell_at.kp Z.b__law_cell_at (ppa_cons (ppe_var 0) (ppa_cons (ppe_var 1) ppa_nil))))
    (ppss_one (pps_ret (ppc_lst (ppa_cons (ppe_mul (ppe_callB call_abs cp_abs (by rfl) Z.z_abs (by decide +kernel) (ppa_cons (ppe_var 2) ppa_nil)) (ppe_callTy call_int1 cp_int1 (by rfl) Z.z_int (by decide +kernel) (ppa_cons (ppe_cmp cm_ge (ppe_callB call_abs cp_abs (by rfl) Z.z_abs (by decide +kernel) (ppa_cons (ppe_var 2) ppa_nil)) (ppe_powc 1000000000000000000) (nomark _)) ppa_nil))) (ppa_cons (ppe_add (ppe_add (ppe_mod (ppe_var 2) ppe_int) (ppe_mul ppe_int (ppe_var 1))) ppe_int) (ppa_cons ppe_int ppa_nil)))))))⟩
set_option maxHeartbeats 4000000 in
theorem bd__law_take {k : Nat} {g__law_take : FB} (O__law_take : FnOk P w K mg base CX0 k Z.f__law_take Z.fd__law_take [("_law_box_here" : Str), ("_law_size" : Str)] (spB K 2 g__law_take)) : ∀ (cdv : Value) (A : Around) (outer : List Env) (s : Shared) (H : Hp) (E : XK), Room k (A.deeper (envOfC "_law_take" (defScope s__law_take) s.heap.objs.size Z.f__law_take cdv)) → ∃ t, PPSs (cxOf CX0 P w K mg base NN__law_take "_law_take" (defScope s__law_take) Z.f__law_take cdv A outer s H E).nox (defBody s__law_take) t (T__law_take g__law_take) :=
  fun cdv A outer s H E hr => ⟨_, (ppss_cons (pps_if (ppt_cmp cm_gt (ppe_ixO 0 ppe_int) ppe_int (nomark _))
    (ppss_cons (pps_set (i := 2) sc__law_take.nd (ppc_val (ppe_mod (ppe_ixO 0 ppe_int) (ppe_var 1))))
    (ppss_cons (pps_store 0 ppe_int (ppe_div (ppe_ixO 0 ppe_int) (ppe_var 1)))
    (ppss_one (pps_ret (ppc_move 2)))))
    ppss_nil)
    (ppss_cons (pps_if (ppt_cmp cm_gt (ppe_var 1) (ppe_powc 10000000) (nomark _))
    (ppss_one (pps_ret (ppc_val (ppe_mod (ppe_add (ppe_frz (ppc_callB 0 O__law_take hr (by rfl) Z.m__law_take Z.F__law_take.kp Z.b__law_take (ppa_cons (ppe_powc 10000000) ppa_nil))) (ppe_mul (ppe_powc 10000000) (ppe_frz (ppc_callB 0 O__law_take hr (by rfl) Z.m__law_take Z.F__law_take.kp Z.b__law_take (ppa_cons (ppe_add (ppe_div (ppe_sub (ppe_var 1) ppe_int) (ppe_powc 10000000)) ppe_int) ppa_nil))))) (ppe_var 1)))))
    ppss_nil)
    (ppss_cons (pps_store 0 ppe_int (ppe_add (ppe_ixO 0 ppe_int) ppe_int))
    (ppss_cons (pps_set (i := 3) sc__law_take.nd (ppc_val (ppe_mod (ppe_mul (ppe_add (ppe_ixO 0 ppe_int) (ppe_mul ppe_int (ppe_ixO 0 ppe_int))) (ppe_add ppe_int (ppe_ixO 0 ppe_int))) ppe_int)))
    (ppss_cons (pps_set (i := 4) sc__law_take.nd (ppc_val (ppe_mod (ppe_mul (ppe_add (ppe_add (ppe_var 3) (ppe_ixO 0 ppe_int)) (ppe_div (ppe_ixO 0 ppe_int) ppe_int)) (ppe_add (ppe_mod (ppe_var 3) ppe_int) ppe_int)) ppe_int)))
    (ppss_one (pps_ret (ppc_val (ppe_mod (ppe_div (ppe_mod (ppe_add (ppe_mul (ppe_var 4) ppe_int) (ppe_var 3)) ppe_int) ppe_int) (ppe_var 1))))))))))⟩
set_option maxHeartbeats 4000000 in
theorem bd__law_of {k : Nat} {g__law_take : FB} (O__law_take : FnOk P w K mg base CX0 k Z.f__law_take Z.fd__law_take [("_law_box_here" : Str), ("_law_size" : Str)] (spB K 2 g__law_take)) : ∀ (cdv : Value) (A : Around) (outer : List Env) (s : Shared) (H : Hp) (E : XK), Room k (A.deeper (envOfC "_law_of" (defScope s__law_of) s.heap.objs.size Z.f__law_of cdv)) → ∃ t, PPSs (cxOf CX0 P w K mg base NN__law_of "_law_of" (defScope s__law_of) Z.f__law_of cdv A outer s H E).nox (defBody s__law_of) t (T__law_of g__law_take) :=
  fun cdv A outer s H E hr => ⟨_, (ppss_one (pps_ret (ppc_val (ppe_ixO 1 (ppe_frz (ppc_callB 0 O__law_take hr (by rfl) Z.m__law_take Z.F__law_take.kp Z.b__law_take (ppa_cons (ppe_lenO 1 (by rfl) Z.z_len) ppa_nil)))))))⟩
set_option maxHeartbeats 4000000 in
theorem bd__law_same {k : Nat} {g__law_same : FA} (O__law_same : FnOk P w K mg base CX0 k Z.f__law_same Z.fd__law_same [("_law_told" : Str), ("_law_due" : Str)] (spA K 2 g__law_same)) : ∀ (cdv : Value) (A : Around) (outer : List Env) (s : Shared) (H : Hp) (E : XK), Room k (A.deeper (envOfC "_law_same" (defScope s__law_same) s.heap.objs.size Z.f__law_same cdv)) → ∃ t, PPSs (cxOf CX0 P w K mg base NN__law_same "_law_same" (defScope s__law_same) Z.f__law_same cdv A outer s H E).nox (defBody s__law_same) t (T__law_same g__law_same) :=
  fun cdv A outer s H E hr => ⟨_, (ppss_cons (pps_if (ppt_val (ppe_isi2 isT_list isT_tuple (by rfl) Z.z_isinstance (by rfl) Z.z_list (by rfl) Z.z_tuple (ppe_var 1)))
    (ppss_cons (pps_if (PPW.ppt (ppw_or (ppt_cmp (cm_ne (hu64 hr)) (ppe_isi isT_list (by rfl) Z.z_isinstance (by rfl) Z.z_list (ppe_var 0)) (ppe_isi isT_list (by rfl) Z.z_isinstance (by rfl) Z.z_list (ppe_var 1)) (nomark _)) (ppw_or1 (ppt_cmp (cm_ne (hu64 hr)) (ppe_isi isT_tuple (by rfl) Z.z_isinstance (by rfl) Z.z_tuple (ppe_var 0)) (ppe_isi isT_tuple (by rfl) Z.z_isinstance (by rfl) Z.z_tuple (ppe_var 1)) (nomark _)))))
    (ppss_one (pps_ret (ppc_val ppe_bl)))
    ppss_nil)
    (ppss_one (pps_ret (ppc_val (ppe_and (ppe_cmp (cm_eq (hu64 hr)) (ppe_lenO 0 (by rfl) Z.z_len) (ppe_lenO 1 (by rfl) Z.z_len) (nomark _)) (ppe_one (ppe_callB (cr_all rfl) cp_all (by rfl) Z.z_all (by decide +kernel) (ppa_cons (ppe_lcL (own := [("_law_here", 2), ("_law_two", 3)]) rfl sc__law_same.nd (ppi_z2 (by rfl) Z.z_zip (ppa_cons (ppe_var 0) (ppa_cons (ppe_var 1) ppa_nil))) (blkOk_by (N := NN__law_same) (sc := defScope s__law_same) (by decide +kernel)) (fun _ _ _ _ _ => ((ptg_tup (n := 2) rfl (ptgs_cons (ptg_name (i := 2) sc__law_same.nd) (ptgs_cons (ptg_name (i := 3) sc__law_same.nd) ptgs_nil)))).lift) (fun _ _ _ _ _ => (ppts_nil).lift) (fun _ _ _ _ _ => ((ppe_frz (ppc_callA O__law_same hr (by rfl) Z.m__law_same Z.F__law_same.kp Z.b__law_same (ppa_cons (ppe_var 2) (ppa_cons (ppe_var 3) ppa_nil))))).lift)) ppa_nil))))))))
    ppss_nil)
    (ppss_cons (pps_if (PPW.ppt (ppw_or (ppt_cmp cm_isN (ppe_var 1) ppe_non (nomark _)) (ppw_or1 (ppt_val (ppe_isi2 isT_bool isT_str (by rfl) Z.z_isinstance (by rfl) Z.z_bool (by rfl) Z.z_str (ppe_var 1))))))
    (ppss_one (pps_ret (ppc_val (ppe_and (ppe_cmp (cm_eq (hu64 hr)) (ppe_var 0) (ppe_var 1) (nomark _)) (ppe_and (ppe_cmp (cm_eq (hu64 hr)) (ppe_isi isT_bool (by rfl) Z.z_isinstance (by rfl) Z.z_bool (ppe_var 0)) (ppe_isi isT_bool (by rfl) Z.z_isinstance (by rfl) Z.z_bool (ppe_var 1)) (nomark _)) (ppe_one (ppe_cmp (cm_eq (hu64 hr)) (ppe_cmp cm_isN (ppe_var 0) ppe_non (nomark _)) (ppe_cmp cm_isN (ppe_var 1) ppe_non (nomark _)) (nomark _))))))))
    ppss_nil)
    (ppss_one (pps_ret (ppc_val (ppe_and (ppe_isi isT_int (by rfl) Z.z_isinstance (by rfl) Z.z_int (ppe_var 0)) (ppe_and (ppe_not (ppe_isi isT_bool (by rfl) Z.z_isinstance (by rfl) Z.z_bool (ppe_var 0))) (ppe_one (ppe_cmp (cm_eq (hu64 hr)) (ppe_var 0) (ppe_var 1) (nomark _))))))))))⟩
set_option maxHeartbeats 4000000 in
theorem bd__law_dune {k : Nat} {g__law_take : FB} (O__law_take : FnOk P w K mg base CX0 k Z.f__law_take Z.fd__law_take [("_law_box_here" : Str), ("_law_size" : Str)] (spB K 2 g__law_take)) : ∀ (cdv : Value) (A : Around) (outer : List Env) (s : Shared) (H : Hp) (E : XK), Room k (A.deeper (envOfC "_law_dune" (defScope s__law_dune) s.heap.objs.size Z.f__law_dune cdv)) → ∃ t, PPSs (cxOf CX0 P w K mg base NN__law_dune "_law_dune" (defScope s__law_dune) Z.f__law_dune cdv A outer s H E).nox (defBody s__law_dune) t (T__law_dune g__law_take) :=
  fun cdv A outer s H E hr => ⟨_, (ppss_cons (pps_par (i := 2) (j := 3) rfl sc__law_dune.nd (ppa_cons (ppe_add ppe_int (ppe_frz (ppc_callB 0 O__law_take hr (by rfl) Z.m__law_take Z.F__law_take.kp Z.b__law_take (ppa_cons (ppe_var 1) ppa_nil)))) (ppa_cons (ppe_ix (ppe_lst (ppa_cons ppe_int (ppa_cons ppe_int (ppa_cons ppe_int (ppa_cons (ppe_powc 1000000000) ppa_nil))))) (ppe_frz (ppc_callB 0 O__law_take hr (by rfl) Z.m__law_take Z.F__law_take.kp Z.b__law_take (ppa_cons ppe_int ppa_nil)))) ppa_nil)))
    (ppss_cons (pps_set (i := 4) sc__law_dune.nd (ppc_lst ppa_nil))
    (ppss_cons (pps_for PassesOwn.never rfl (ppi_range1 (by rfl) Z.z_range (ppa_cons (ppe_var 2) ppa_nil)) (ptg_name (i := 5) sc__law_dune.nd)
    (ppss_one (pps_append 4 (ppe_ix (ppe_lst (ppa_cons ppe_int (ppa_cons (ppe_var 3) (ppa_cons (ppe_sub (ppe_frz (ppc_callB 0 O__law_take hr (by rfl) Z.m__law_take Z.F__law_take.kp Z.b__law_take (ppa_cons (ppe_add (ppe_mul ppe_int (ppe_var 3)) ppe_int) ppa_nil))) (ppe_var 3)) (ppa_cons (ppe_frz (ppc_callB 0 O__law_take hr (by rfl) Z.m__law_take Z.F__law_take.kp Z.b__law_take (ppa_cons (ppe_add (ppe_var 3) ppe_int) ppa_nil))) ppa_nil))))) (ppe_frz (ppc_callB 0 O__law_take hr (by rfl) Z.m__law_take Z.F__law_take.kp Z.b__law_take (ppa_cons ppe_int ppa_nil)))))))
    (ppss_one (pps_ret (ppc_val (ppe_callTy call_tuple_of cp_tup (by rfl) Z.z_tuple (by decide +kernel) (ppa_cons (ppe_var 4) ppa_nil))))))))⟩
set_option maxHeartbeats 4000000 in
theorem bd__law_slope {k : Nat} {g__law_take : FB} (O__law_take : FnOk P w K mg base CX0 k Z.f__law_take Z.fd__law_take [("_law_box_here" : Str), ("_law_size" : Str)] (spB K 2 g__law_take)) : ∀ (cdv : Value) (A : Around) (outer : List Env) (s : Shared) (H : Hp) (E : XK), Room k (A.deeper (envOfC "_law_slope" (defScope s__law_slope) s.heap.objs.size Z.f__law_slope cdv)) → ∃ t, PPSs (cxOf CX0 P w K mg base NN__law_slope "_law_slope" (defScope s__law_slope) Z.f__law_slope cdv A outer s H E).nox (defBody s__law_slope) t (T__law_slope g__law_take) :=
  fun cdv A outer s H E hr => ⟨_, (ppss_one (pps_ret (ppc_callB 0 O__law_take hr (by rfl) Z.m__law_take Z.F__law_take.kp Z.b__law_take (ppa_cons (ppe_ix (ppe_lst (ppa_cons ppe_int (ppa_cons ppe_int (ppa_cons ppe_int (ppa_cons (ppe_powc 1000000000) ppa_nil))))) (ppe_frz (ppc_callB 0 O__law_take hr (by rfl) Z.m__law_take Z.F__law_take.kp Z.b__law_take (ppa_cons ppe_int ppa_nil)))) ppa_nil))))⟩
set_option maxHeartbeats 4000000 in
theorem bd__law_winds {k : Nat} {g__law_take : FB} (O__law_take : FnOk P w K mg base CX0 k Z.f__law_take Z.fd__law_take [("_law_box_here" : Str), ("_law_size" : Str)] (spB K 2 g__law_take)) {g__law_slope : FB} (O__law_slope : FnOk P w K mg base CX0 k Z.f__law_slope Z.fd__law_slope [("_law_box_here" : Str)] (spB K 1 g__law_slope)) : ∀ (cdv : Value) (A : Around) (outer : List Env) (s : Shared) (H : Hp) (E : XK), Room k (A.deeper (envOfC "_law_winds" (defScope s__law_winds) s.heap.objs.size Z.f__law_winds cdv)) → ∃ t, PPSs (cxOf CX0 P w K mg base NN__law_winds "_law_winds" (defScope s__law_winds) Z.f__law_winds cdv A outer s H E).nox (defBody s__law_winds) t (T__law_winds g__law_take g__law_slope) :=
  fun cdv A outer s H E hr => ⟨_, (ppss_one (pps_ret (ppc_lcL (own := [("_law_turn", 2)]) rfl sc__law_winds.nd (ppi_range1 (by rfl) Z.z_range (ppa_cons (ppe_frz (ppc_callB 0 O__law_take hr (by rfl) Z.m__law_take Z.F__law_take.kp Z.b__law_take (ppa_cons (ppe_add (ppe_var 1) ppe_int) ppa_nil))) ppa_nil)) (blkOk_by (N := NN__law_winds) (sc := defScope s__law_winds) (by decide +kernel)) (fun _ _ _ _ _ => ((ptg_name (i := 2) sc__law_winds.nd)).lift) (fun _ _ _ _ _ => (ppts_nil).lift) (fun _ _ _ _ _ => ((ppe_tup (ppa_cons (ppe_ix (ppe_lst (ppa_cons ppe_str (ppa_cons ppe_str ppa_nil))) (ppe_frz (ppc_callB 0 O__law_take hr (by rfl) Z.m__law_take Z.F__law_take.kp Z.b__law_take (ppa_cons ppe_int ppa_nil)))) (ppa_cons (ppe_frz (ppc_callB 0 O__law_slope hr (by rfl) Z.m__law_slope Z.F__law_slope.kp Z.b__law_slope ppa_nil)) ppa_nil)))).lift))))⟩
set_option maxHeartbeats 4000000 in
theorem bd__law_is_figures {k : Nat} : ∀ (cdv : Value) (A : Around) (outer : List Env) (s : Shared) (H : Hp) (E : XK), Room k (A.deeper (envOfC "_law_is_figures" (defScope s__law_is_figures) s.heap.objs.size Z.f__law_is_figures cdv)) → ∃ t, PPSs (cxOf CX0 P w K mg base NN__law_is_figures "_law_is_figures" (defScope s__law_is_figures) Z.f__law_is_figures cdv A outer s H E).nox (defBody s__law_is_figures) t (T__law_is_figures) :=
  fun cdv A outer s H E hr => ⟨_, (ppss_cons (pps_if (PPW.ppt (ppw_or (ppt_cmp (cm_eq (hu64 hr)) (ppe_var 0) ppe_str (nomark _)) (ppw_or1 (ppt_not (ppt_val (ppe_callB (cr_all rfl) cp_all (by rfl) Z.z_all (by decide +kernel) (ppa_cons (ppe_lcL (own := [("_law_letter", 1)]) rfl sc__law_is_figures.nd (ppi_str (ppe_var 0)) (blkOk_by (N := NN__law_is_figures) (sc := defScope s__law_is_figures) (by decide +kernel)) (fun _ _ _ _ _ => ((ptg_name (i := 1) sc__law_is_figures.nd)).lift) (fun _ _ _ _ _ => (ppts_nil).lift) (fun _ _ _ _ _ => ((ppe_cmp cm_inSg (ppe_var 1) ppe_str rfl)).lift)) ppa_nil)))))))
    (ppss_one (pps_ret (ppc_val ppe_bl)))
    ppss_nil)
    (ppss_one (pps_ret (ppc_val (ppe_cmp (cm_eq (hu64 hr)) (ppe_callTy call_str_int cp_strI (by rfl) Z.z_str (by decide +kernel) (ppa_cons (ppe_callTy call_int_str cp_intS (by rfl) Z.z_int (by decide +kernel) (ppa_cons (ppe_var 0) ppa_nil)) ppa_nil)) (ppe_var 0) (nomark _))))))⟩
set_option maxHeartbeats 4000000 in
theorem bd__law_dune_of {k : Nat} {g__law_is_figures : FA} (O__law_is_figures : FnOk P w K mg base CX0 k Z.f__law_is_figures Z.fd__law_is_figures [("_law_sign" : Str)] (spA K 1 g__law_is_figures)) : ∀ (cdv : Value) (A : Around) (outer : List Env) (s : Shared) (H : Hp) (E : XK), Room k (A.deeper (envOfC "_law_dune_of" (defScope s__law_dune_of) s.heap.objs.size Z.f__law_dune_of cdv)) → ∃ t, PPSs (cxOf CX0 P w K mg base NN__law_dune_of "_law_dune_of" (defScope s__law_dune_of) Z.f__law_dune_of cdv A outer s H E).nox (defBody s__law_dune_of) t (T__law_dune_of g__law_is_figures) :=
  fun cdv A outer s H E hr => ⟨_, (ppss_cons (pps_set (i := 1) sc__law_dune_of.nd (ppc_lst ppa_nil))
    (ppss_cons (pps_for PassesOwn.never rfl (ppi_e (by rfl) Z.z_enumerate (ppa_cons (ppe_split (ppe_var 0) ppe_str) ppa_nil)) (ptg_tup (n := 2) rfl (ptgs_cons (ptg_name (i := 2) sc__law_dune_of.nd) (ptgs_cons (ptg_name (i := 3) sc__law_dune_of.nd) ptgs_nil)))
    (ppss_cons (pps_set (i := 4) sc__law_dune_of.nd (ppc_val (ppe_ifExp (ppt_cmp (cm_eq (hu64 hr)) (ppe_sliceS (ppe_var 3) ppo_none (ppo_some ppe_int)) ppe_str (nomark _)) (ppe_sliceS (ppe_var 3) (ppo_some ppe_int) ppo_none) (ppe_var 3))))
    (ppss_cons (pps_if (PPW.ppt (ppw_or (ppt_not (ppt_val (ppe_frz (ppc_callA O__law_is_figures hr (by rfl) Z.m__law_is_figures Z.F__law_is_figures.kp Z.b__law_is_figures (ppa_cons (ppe_var 4) ppa_nil))))) (ppw_or1 (ppt_cmp (cm_eq (hu64 hr)) (ppe_var 3) ppe_str (nomark _)))))
    (ppss_one (pps_ret (ppc_move 2)))
    ppss_nil)
    (ppss_one (pps_append 1 (ppe_callTy call_int_str cp_intS (by rfl) Z.z_int (by decide +kernel) (ppa_cons (ppe_var 3) ppa_nil)))))))
    (ppss_one (pps_ret (ppc_val (ppe_callTy call_tuple_of cp_tup (by rfl) Z.z_tuple (by decide +kernel) (ppa_cons (ppe_var 1) ppa_nil)))))))⟩
set_option maxHeartbeats 4000000 in
theorem bd__law_winds_of {k : Nat} {g__law_is_figures : FA} (O__law_is_figures : FnOk P w K mg base CX0 k Z.f__law_is_figures Z.fd__law_is_figures [("_law_sign" : Str)] (spA K 1 g__law_is_figures)) : ∀ (cdv : Value) (A : Around) (outer : List Env) (s : Shared) (H : Hp) (E : XK), Room k (A.deeper (envOfC "_law_winds_of" (defScope s__law_winds_of) s.heap.objs.size Z.f__law_winds_of cdv)) → ∃ t, PPSs (cxOf CX0 P w K mg base NN__law_winds_of "_law_winds_of" (defScope s__law_winds_of) Z.f__law_winds_of cdv A outer s H E).nox (defBody s__law_winds_of) t (T__law_winds_of g__law_is_figures) :=
  fun cdv A outer s H E hr => ⟨_, (ppss_cons (pps_if (ppt_cmp (cm_eq (hu64 hr)) (ppe_var 0) ppe_str (nomark _))
    (ppss_one (pps_ret (ppc_lst ppa_nil)))
    ppss_nil)
    (ppss_cons (pps_set (i := 1) sc__law_winds_of.nd (ppc_lst ppa_nil))
    (ppss_cons (pps_for PassesOwn.never rfl (ppi_e (by rfl) Z.z_enumerate (ppa_cons (ppe_split (ppe_var 0) ppe_str) ppa_nil)) (ptg_tup (n := 2) rfl (ptgs_cons (ptg_name (i := 2) sc__law_winds_of.nd) (ptgs_cons (ptg_name (i := 3) sc__law_winds_of.nd) ptgs_nil)))
    (ppss_cons (pps_if (PPW.ppt (ppw_or (ppt_cmp (cm_ninT (hu65 hr)) (ppe_sliceS (ppe_var 3) ppo_none (ppo_some ppe_int)) (ppe_tup (ppa_cons ppe_str (ppa_cons ppe_str ppa_nil))) rfl) (ppw_or1 (ppt_not (ppt_val (ppe_frz (ppc_callA O__law_is_figures hr (by rfl) Z.m__law_is_figures Z.F__law_is_figures.kp Z.b__law_is_figures (ppa_cons (ppe_sliceS (ppe_var 3) (ppo_some ppe_int) ppo_none) ppa_nil))))))))
    (ppss_one (pps_ret (ppc_move 2)))
    ppss_nil)
    (ppss_one (pps_append 1 (ppe_tup (ppa_cons (ppe_ifExp (ppt_cmp (cm_eq (hu64 hr)) (ppe_ixO 3 ppe_int) ppe_str (nomark _)) ppe_str ppe_str) (ppa_cons (ppe_callTy call_int_str cp_intS (by rfl) Z.z_int (by decide +kernel) (ppa_cons (ppe_sliceS (ppe_var 3) (ppo_some ppe_int) ppo_none) ppa_nil)) ppa_nil)))))))
    (ppss_one (pps_ret (ppc_move 1))))))⟩
set_option maxHeartbeats 4000000 in
theorem bd__law_read {k : Nat} {g_dune_in : FA} (O_dune_in : FnOk P w K mg base CX0 k Z.f_dune_in Z.fd_dune_in [("text" : Str)] (spA K 1 g_dune_in)) {g_almanac_in : FA} (O_almanac_in : FnOk P w K mg base CX0 k Z.f_almanac_in Z.fd_almanac_in [("text" : Str)] (spA K 1 g_almanac_in)) {gx_dune_in : FX} (OX_dune_in : FnOk P w K mg base (L2.CX P w) k Z.f_dune_in Z.fd_dune_in [("text" : Str)] (spX K 1 gx_dune_in)) {gx_almanac_in : FX} (OX_almanac_in : FnOk P w K mg base (L2.CX P w) k Z.f_almanac_in Z.fd_almanac_in [("text" : Str)] (spX K 1 gx_almanac_in)) : ∀ (cdv : Value) (A : Around) (outer : List Env) (s : Shared) (H : Hp) (E : XK), Room k (A.deeper (envOfC "_law_read" (defScope s__law_read) s.heap.objs.size Z.f__law_read cdv)) → ∃ t, PPSs (cxOf CX0 P w K mg base NN__law_read "_law_read" (defScope s__law_read) Z.f__law_read cdv A outer s H E).nox (defBody s__law_read) t (T__law_read g_dune_in g_almanac_in gx_dune_in gx_almanac_in) :=
  fun cdv A outer s H E hr => ⟨_, (ppss_cons (pps_asg (ppe_tup (ppa_cons ppe_non (ppa_cons ppe_non ppa_nil))) (ptg_tup (n := 2) rfl (ptgs_cons (ptg_name (i := 2) sc__law_read.nd) (ptgs_cons (ptg_name (i := 3) sc__law_read.nd) ptgs_nil))))
    (ppss_cons (pps_try (i := 4) (j := 3) (cs := [("BadText" : Str)]) rfl rfl rfl sc__law_read.nd rfl rfl rfl rfl (fun W pn xe tk po => ((pxss_one (pxs_or (pps_set (i := 2) sc__law_read.nd (ppc_val (ppe_ifExp (ppt_val (ppe_var 1)) (ppe_frz (ppc_callA O_dune_in hr (by rfl) Z.m_dune_in Z.F_dune_in.kp Z.b_dune_in (ppa_cons (ppe_var 0) ppa_nil))) (ppe_frz (ppc_callA O_almanac_in hr (by rfl) Z.m_almanac_in Z.F_almanac_in.kp Z.b_almanac_in (ppa_cons (ppe_var 0) ppa_nil))))))
    (pxs_set (i := 2) sc__law_read.nd (pxe_if (ppt_val (ppe_var 1)) (pxe_call OX_dune_in tk hr (by rfl) Z.m_dune_in Z.F_dune_in.kp Z.b_dune_in (ppa_cons (ppe_var 0) ppa_nil)) (pxe_call OX_almanac_in tk hr (by rfl) Z.m_almanac_in Z.F_almanac_in.kp Z.b_almanac_in (ppa_cons (ppe_var 0) ppa_nil))))))).lift)
    (hit1 Z.x_BadText (by rfl)))
    (ppss_one (pps_ret (ppc_val (ppe_ifExp (ppt_cmp cm_isN (ppe_var 3) ppe_non (nomark _)) (ppe_var 2) (ppe_ifExp (ppt_val (ppe_isX (xcs_cons Z.x_BadText xcs_nil) (itx_blt (n := "ValueError") (by rfl) Z.z_ValueError) (by rfl) Z.z_isinstance (ppe_var 3))) (ppe_xf (xcs_cons Z.x_BadText xcs_nil) (ppe_var 3)) ppe_non)))))))⟩
set_option maxHeartbeats 4000000 in
theorem bd__law_spoilt {k : Nat} {g__law_take : FB} (O__law_take : FnOk P w K mg base CX0 k Z.f__law_take Z.fd__law_take [("_law_box_here" : Str), ("_law_size" : Str)] (spB K 2 g__law_take)) {g__law_of : FB} (O__law_of : FnOk P w K mg base CX0 k Z.f__law_of Z.fd__law_of [("_law_box_here" : Str), ("_law_some" : Str)] (spB K 2 g__law_of)) : ∀ (cdv : Value) (A : Around) (outer : List Env) (s : Shared) (H : Hp) (E : XK), Room k (A.deeper (envOfC "_law_spoilt" (defScope s__law_spoilt) s.heap.objs.size Z.f__law_spoilt cdv)) → ∃ t, PPSs (cxOf CX0 P w K mg base NN__law_spoilt "_law_spoilt" (defScope s__law_spoilt) Z.f__law_spoilt cdv A outer s H E).nox (defBody s__law_spoilt) t (T__law_spoilt g__law_take g__law_of) :=
  fun cdv A outer s H E hr => ⟨_, (ppss_cons (pps_par3 (i := 2) (j := 3) (l := 4) rfl sc__law_spoilt.nd (ppa_cons (ppe_frz (ppc_callB 0 O__law_take hr (by rfl) Z.m__law_take Z.F__law_take.kp Z.b__law_take (ppa_cons (ppe_lenO 1 (by rfl) Z.z_len) ppa_nil))) (ppa_cons (ppe_frz (ppc_callB 0 O__law_take hr (by rfl) Z.m__law_take Z.F__law_take.kp Z.b__law_take (ppa_cons ppe_int ppa_nil))) (ppa_cons (ppe_frz (ppc_callB 0 O__law_of hr (by rfl) Z.m__law_of Z.F__law_of.kp Z.b__law_of (ppa_cons ppe_str ppa_nil))) ppa_nil))))
    (ppss_cons (pps_if (ppt_cmp (cm_eq (hu64 hr)) (ppe_var 3) ppe_int (nomark _))
    (ppss_one (pps_ret (ppc_val (ppe_add (ppe_sliceS (ppe_var 1) ppo_none (ppo_some (ppe_var 2))) (ppe_sliceS (ppe_var 1) (ppo_some (ppe_add (ppe_var 2) ppe_int)) ppo_none)))))
    ppss_nil)
    (ppss_cons (pps_if (ppt_cmp (cm_eq (hu64 hr)) (ppe_var 3) ppe_int (nomark _))
    (ppss_one (pps_ret (ppc_val (ppe_add (ppe_add (ppe_sliceS (ppe_var 1) ppo_none (ppo_some (ppe_var 2))) (ppe_ixO 1 (ppe_var 2))) (ppe_sliceS (ppe_var 1) (ppo_some (ppe_var 2)) ppo_none)))))
    ppss_nil)
    (ppss_one (pps_ret (ppc_val (ppe_add (ppe_add (ppe_sliceS (ppe_var 1) ppo_none (ppo_some (ppe_var 2))) (ppe_var 4)) (ppe_sliceS (ppe_var 1) (ppo_some (ppe_add (ppe_var 2) (ppe_callTy call_int1 cp_int1 (by rfl) Z.z_int (by decide +kernel) (ppa_cons (ppe_cmp (cm_eq (hu64 hr)) (ppe_var 3) ppe_int (nomark _)) ppa_nil)))) ppo_none))))))))⟩
set_option maxHeartbeats 4000000 in
theorem bd_law {k : Nat} {g_dune_text : FA} (O_dune_text : FnOk P w K mg base CX0 k Z.f_dune_text Z.fd_dune_text [("dune" : Str)] (spA K 1 g_dune_text)) {g_almanac_text : FA} (O_almanac_text : FnOk P w K mg base CX0 k Z.f_almanac_text Z.fd_almanac_text [("almanac" : Str)] (spA K 1 g_almanac_text)) {g_dune_in : FA} (O_dune_in : FnOk P w K mg base CX0 k Z.f_dune_in Z.fd_dune_in [("text" : Str)] (spA K 1 g_dune_in)) {g_almanac_in : FA} (O_almanac_in : FnOk P w K mg base CX0 k Z.f_almanac_in Z.fd_almanac_in [("text" : Str)] (spA K 1 g_almanac_in)) {g__law_box : FA} (O__law_box : FnOk P w K mg base CX0 k Z.f__law_box Z.fd__law_box [("_law_script" : Str), ("_law_k" : Str)] (spA K 2 g__law_box)) {g__law_same : FA} (O__law_same : FnOk P w K mg base CX0 k Z.f__law_same Z.fd__law_same [("_law_told" : Str), ("_law_due" : Str)] (spA K 2 g__law_same)) {g__law_dune : FB} (O__law_dune : FnOk P w K mg base CX0 k Z.f__law_dune Z.fd__law_dune [("_law_box_here" : Str), ("_law_size" : Str)] (spB K 2 g__law_dune)) {g__law_winds : FB} (O__law_winds : FnOk P w K mg base CX0 k Z.f__law_winds Z.fd__law_winds [("_law_box_here" : Str), ("_law_size" : Str)] (spB K 2 g__law_winds)) {g__law_dune_of : FA} (O__law_dune_of : FnOk P w K mg base CX0 k Z.f__law_dune_of Z.fd__law_dune_of [("_law_words" : Str)] (spA K 1 g__law_dune_of)) {g__law_winds_of : FA} (O__law_winds_of : FnOk P w K mg base CX0 k Z.f__law_winds_of Z.fd__law_winds_of [("_law_words" : Str)] (spA K 1 g__law_winds_of)) {g__law_read : FA} (O__law_read : FnOk P w K mg base CX0 k Z.f__law_read Z.fd__law_read [("_law_words" : Str), ("_law_is_dune_text" : Str)] (spA K 2 g__law_read)) {g__law_spoilt : FB} (O__law_spoilt : FnOk P w K mg base CX0 k Z.f__law_spoilt Z.fd__law_spoilt [("_law_box_here" : Str), ("_law_words" : Str)] (spB K 2 g__law_spoilt)) : ∀ (cdv : Value) (A : Around) (outer : List Env) (s : Shared) (H : Hp) (E : XK), Room k (A.deeper (envOfC "law" (defScope s_law) s.heap.objs.size Z.f_law cdv)) → ∃ t, PPSs (cxOf CX0 P w K mg base NN_law "law" (defScope s_law) Z.f_law cdv A outer s H E).nox (defBody s_law) t (T_law g_dune_text g_almanac_text g_dune_in g_almanac_in g__law_box g__law_same g__law_dune g__law_winds g__law_dune_of g__law_winds_of g__law_read g__law_spoilt) :=
  fun cdv A outer s H E hr => ⟨_, (ppss_cons (pps_set (i := 1) sc_law.nd (ppc_val (ppe_lst (ppa_cons ppe_str (ppa_cons ppe_str (ppa_cons ppe_str (ppa_cons ppe_str (ppa_cons ppe_str (ppa_cons ppe_str (ppa_cons ppe_str (ppa_cons ppe_str (ppa_cons ppe_str (ppa_cons ppe_str (ppa_cons ppe_str (ppa_cons ppe_str (ppa_cons ppe_str (ppa_cons ppe_str (ppa_cons ppe_str (ppa_cons ppe_str (ppa_cons ppe_str (ppa_cons ppe_str ppa_nil)))))))))))))))))))))
    (ppss_cons (pps_set (i := 1) sc_law.nd (ppc_val (ppe_add (ppe_var 1) (ppe_lst (ppa_cons ppe_str (ppa_cons ppe_str (ppa_cons ppe_str (ppa_cons ppe_str (ppa_cons ppe_str (ppa_cons ppe_str (ppa_cons ppe_str (ppa_cons ppe_str (ppa_cons ppe_str (ppa_cons ppe_str (ppa_cons ppe_str ppa_nil)))))))))))))))
    (ppss_cons (pps_set (i := 1) sc_law.nd (ppc_val (ppe_add (ppe_var 1) (ppe_lst (ppa_cons ppe_str (ppa_cons ppe_str (ppa_cons ppe_str ppa_nil)))))))
    (ppss_cons (pps_for PassesOwn.never rfl (ppi_range1 (by rfl) Z.z_range (ppa_cons (ppe_add ppe_int (ppe_callB (call_min2 rfl) cp_min2 (by rfl) Z.z_min (by decide +kernel) (ppa_cons ppe_int (ppa_cons (ppe_lenO 0 (by rfl) Z.z_len) ppa_nil)))) ppa_nil)) (ptg_name (i := 2) sc_law.nd)
    (ppss_cons (pps_set (i := 3) sc_law.nd (ppc_callA O__law_box hr (by rfl) Z.m__law_box Z.F__law_box.kp Z.b__law_box (ppa_cons (ppe_var 0) (ppa_cons (ppe_var 2) ppa_nil))))
    (ppss_cons (pps_par (i := 4) (j := 5) rfl sc_law.nd (ppa_cons (ppe_frz (ppc_callB 3 O__law_dune hr (by rfl) Z.m__law_dune Z.F__law_dune.kp Z.b__law_dune (ppa_cons ppe_int ppa_nil))) (ppa_cons (ppe_frz (ppc_callB 3 O__law_winds hr (by rfl) Z.m__law_winds Z.F__law_winds.kp Z.b__law_winds (ppa_cons ppe_int ppa_nil))) ppa_nil)))
    (ppss_cons (pps_set (i := 7) sc_law.nd (ppc_lst (ppa_cons (ppe_join ppe_str (ppe_lcL (own := [("_law_level", 6)]) rfl sc_law.nd (ppi_seq (ppe_var 4)) (blkOk_by (N := NN_law) (sc := defScope s_law) (by decide +kernel)) (fun _ _ _ _ _ => ((ptg_name (i := 6) sc_law.nd)).lift) (fun _ _ _ _ _ => (ppts_nil).lift) (fun _ _ _ _ _ => ((ppe_callTy call_str_int cp_strI (by rfl) Z.z_str (by decide +kernel) (ppa_cons (ppe_var 6) ppa_nil))).lift))) ppa_nil)))
    (ppss_cons (pps_append 7 (ppe_ifExp (ppt_cmp (cm_ne (hu64 hr)) (ppe_var 5) (ppe_lst ppa_nil) (nomark _)) (ppe_join ppe_str (ppe_lcL (own := [("_law_sign", 8), ("_law_slope_here", 9)]) rfl sc_law.nd (ppi_seq (ppe_var 5)) (blkOk_by (N := NN_law) (sc := defScope s_law) (by decide +kernel)) (fun _ _ _ _ _ => ((ptg_tup (n := 2) rfl (ptgs_cons (ptg_name (i := 8) sc_law.nd) (ptgs_cons (ptg_name (i := 9) sc_law.nd) ptgs_nil)))).lift) (fun _ _ _ _ _ => (ppts_nil).lift) (fun _ _ _ _ _ => ((ppe_add (ppe_ixO 8 ppe_int) (ppe_callTy call_str_int cp_strI (by rfl) Z.z_str (by decide +kernel) (ppa_cons (ppe_var 9) ppa_nil)))).lift))) ppe_str))
    (ppss_cons (pps_set (i := 10) sc_law.nd (ppc_val (ppe_lst (ppa_cons (ppe_frz (ppc_callA O_dune_text hr (by rfl) Z.m_dune_text Z.F_dune_text.kp Z.b_dune_text (ppa_cons (ppe_var 4) ppa_nil))) (ppa_cons (ppe_frz (ppc_callA O_almanac_text hr (by rfl) Z.m_almanac_text Z.F_almanac_text.kp Z.b_almanac_text (ppa_cons (ppe_var 5) ppa_nil))) (ppa_cons (ppe_frz (ppc_callK (ks := [("dune" : Str)]) (is := [0]) O_dune_text hr (by rfl) Z.m_dune_text Z.F_dune_text.kp (fun_kbn Z.F_dune_text [("dune" : Str)] [0] (fun _ _ _ _ _ _ ws hl => match ws, hl with | [_], _ => rfl)) (ppk_cons (ppe_callTy call_list_of cp_lst (by rfl) Z.z_list (by decide +kernel) (ppa_cons (ppe_var 4) ppa_nil)) ppk_nil))) (ppa_cons (ppe_frz (ppc_callK (ks := [("almanac" : Str)]) (is := [0]) O_almanac_text hr (by rfl) Z.m_almanac_text Z.F_almanac_text.kp (fun_kbn Z.F_almanac_text [("almanac" : Str)] [0] (fun _ _ _ _ _ _ ws hl => match ws, hl with | [_], _ => rfl)) (ppk_cons (ppe_callTy call_tuple_of cp_tup (by rfl) Z.z_tuple (by decide +kernel) (ppa_cons (ppe_var 5) ppa_nil)) ppk_nil))) ppa_nil)))))))
    (ppss_cons (pps_if (ppt_not (ppt_val (ppe_frz (ppc_callA O__law_same hr (by rfl) Z.m__law_same Z.F__law_same.kp Z.b__law_same (ppa_cons (ppe_var 10) (ppa_cons (ppe_rep (ppe_var 7) ppe_int) ppa_nil))))))
    (ppss_one (pps_ret (ppc_val ppe_bl)))
    ppss_nil)
    (ppss_cons (pps_if (ppt_not (ppt_val (ppe_frz (ppc_callA O__law_same hr (by rfl) Z.m__law_same Z.F__law_same.kp Z.b__law_same (ppa_cons (ppe_lst (ppa_cons (ppe_frz (ppc_callK (ks := [("text" : Str)]) (is := [0]) O_dune_in hr (by rfl) Z.m_dune_in Z.F_dune_in.kp (fun_kbn Z.F_dune_in [("text" : Str)] [0] (fun _ _ _ _ _ _ ws hl => match ws, hl with | [_], _ => rfl)) (ppk_cons (ppe_ixO 7 ppe_int) ppk_nil))) (ppa_cons (ppe_frz (ppc_callK (ks := [("text" : Str)]) (is := [0]) O_almanac_in hr (by rfl) Z.m_almanac_in Z.F_almanac_in.kp (fun_kbn Z.F_almanac_in [("text" : Str)] [0] (fun _ _ _ _ _ _ ws hl => match ws, hl with | [_], _ => rfl)) (ppk_cons (ppe_ixO 7 ppe_int) ppk_nil))) ppa_nil))) (ppa_cons (ppe_lst (ppa_cons (ppe_var 4) (ppa_cons (ppe_var 5) ppa_nil))) ppa_nil))))))
    (ppss_one (pps_ret (ppc_val ppe_bl)))
    ppss_nil)
    (ppss_cons (pps_set (i := 12) sc_law.nd (ppc_val (ppe_add (ppe_add (ppe_var 1) (ppe_var 7)) (ppe_lcL (own := [("_law_words", 11)]) rfl sc_law.nd (ppi_seq (ppe_rep (ppe_var 7) ppe_int)) (blkOk_by (N := NN_law) (sc := defScope s_law) (by decide +kernel)) (fun _ _ _ _ _ => ((ptg_name (i := 11) sc_law.nd)).lift) (fun _ _ _ _ _ => (ppts_nil).lift) (fun _ _ _ _ _ => ((ppe_frz (ppc_callB 3 O__law_spoilt hr (by rfl) Z.m__law_spoilt Z.F__law_spoilt.kp Z.b__law_spoilt (ppa_cons (ppe_var 11) ppa_nil)))).lift)))))
    (ppss_one (pps_for PassesOwn.never rfl (ppi_seq (ppe_var 12)) (ptg_name (i := 11) sc_law.nd)
    (ppss_cons (pps_set (i := 13) sc_law.nd (ppc_val (ppe_lst (ppa_cons (ppe_frz (ppc_callA O__law_dune_of hr (by rfl) Z.m__law_dune_of Z.F__law_dune_of.kp Z.b__law_dune_of (ppa_cons (ppe_var 11) ppa_nil))) (ppa_cons (ppe_frz (ppc_callA O__law_winds_of hr (by rfl) Z.m__law_winds_of Z.F__law_winds_of.kp Z.b__law_winds_of (ppa_cons (ppe_var 11) ppa_nil))) ppa_nil)))))
    (ppss_one (pps_if (ppt_not (ppt_val (ppe_frz (ppc_callA O__law_same hr (by rfl) Z.m__law_same Z.F__law_same.kp Z.b__law_same (ppa_cons (ppe_lst (ppa_cons (ppe_frz (ppc_callA O__law_read hr (by rfl) Z.m__law_read Z.F__law_read.kp Z.b__law_read (ppa_cons (ppe_var 11) (ppa_cons ppe_bl ppa_nil)))) (ppa_cons (ppe_frz (ppc_callA O__law_read hr (by rfl) Z.m__law_read Z.F__law_read.kp Z.b__law_read (ppa_cons (ppe_var 11) (ppa_cons ppe_bl ppa_nil)))) ppa_nil))) (ppa_cons (ppe_var 13) ppa_nil))))))
    (ppss_one (pps_ret (ppc_val ppe_bl)))
    ppss_nil))))))))))))))
    (ppss_one (pps_ret (ppc_val ppe_bl)))))))⟩
set_option maxHeartbeats 4000000 in
theorem bdx_dune_in {k : Nat} {g_is_number_word : FA} (O_is_number_word : FnOk P w K mg base CX0 k Z.f_is_number_word Z.fd_is_number_word [("word" : Str)] (spA K 1 g_is_number_word)) {g_number_in : FA} (O_number_in : FnOk P w K mg base CX0 k Z.f_number_in Z.fd_number_in [("word" : Str)] (spA K 1 g_number_in)) {ok_BadText : D → Prop} (OI_BadText : FnOk P w K mg base CX0 k Z.fI_BadText Z.fdI_BadText ["self", "at"] (spI K "BadText" Z.C_BadText ok_BadText)) : ∀ (cdv : Value) (A : Around) (outer : List Env) (s : Shared) (H : Hp) (E : XK), Room (k + 1) (A.deeper (envOfC "dune_in" (defScope s_dune_in) s.heap.objs.size Z.f_dune_in cdv)) → ∃ t, PXSs (cxOf (L2.CX P w) P w K mg base NN_dune_in "dune_in" (defScope s_dune_in) Z.f_dune_in cdv A outer s H E) (fun cls d _ H => E cls d H) (defBody s_dune_in) t (TX_dune_in g_is_number_word g_number_in ok_BadText) :=
  fun cdv A outer s H E hr => ⟨_, (pxss_cons (pxs_ok (pps_set (i := 1) sc_dune_in.nd (ppc_val (ppe_split (ppe_var 0) ppe_str))))
    (pxss_cons (pxs_for (passes_of rfl) rfl (ppi_e (by rfl) Z.z_enumerate (ppa_cons (ppe_var 1) ppa_nil)) (ptg_tup (n := 2) rfl (ptgs_cons (ptg_name (i := 2) sc_dune_in.nd) (ptgs_cons (ptg_name (i := 3) sc_dune_in.nd) ptgs_nil)))
    (pxss_one (pxs_if (ppt_not (ppt_val (ppe_frz (ppc_callA O_is_number_word (hr.mono (Nat.le_succ _)) (by rfl) Z.m_is_number_word Z.F_is_number_word.kp Z.b_is_number_word (ppa_cons (ppe_var 3) ppa_nil)))))
    (pxss_one (pxs_raise rfl (takes_of rfl rfl rfl rfl) (XB.over (xb "BadText")) Z.x_BadText.own Z.x_BadText.ns Z.iC_BadText Z.tI_BadText OI_BadText hr Z.bI_BadText (by rfl) Z.x_BadText.gm (ppa_cons (ppe_var 2) ppa_nil)))
    pxss_nil)))
    (pxss_one (pxs_ok (pps_ret (ppc_val (ppe_callTy call_tuple_of cp_tup (by rfl) Z.z_tuple (by decide +kernel) (ppa_cons (ppe_lcL (own := [("word", 3)]) rfl sc_dune_in.nd (ppi_seq (ppe_var 1)) (blkOk_by (N := NN_dune_in) (sc := defScope s_dune_in) (by decide +kernel)) (fun _ _ _ _ _ => ((ptg_name (i := 3) sc_dune_in.nd)).lift) (fun _ _ _ _ _ => (ppts_nil).lift) (fun _ _ _ _ _ => ((ppe_frz (ppc_callA O_number_in (hr.mono (Nat.le_succ _)) (by rfl) Z.m_number_in Z.F_number_in.kp Z.b_number_in (ppa_cons (ppe_var 3) ppa_nil)))).lift)) ppa_nil))))))))⟩
set_option maxHeartbeats 4000000 in
theorem bdx_almanac_in {k : Nat} {g_is_wind_word : FA} (O_is_wind_word : FnOk P w K mg base CX0 k Z.f_is_wind_word Z.fd_is_wind_word [("word" : Str)] (spA K 1 g_is_wind_word)) {g_wind_in : FA} (O_wind_in : FnOk P w K mg base CX0 k Z.f_wind_in Z.fd_wind_in [("word" : Str)] (spA K 1 g_wind_in)) {ok_BadText : D → Prop} (OI_BadText : FnOk P w K mg base CX0 k Z.fI_BadText Z.fdI_BadText ["self", "at"] (spI K "BadText" Z.C_BadText ok_BadText)) : ∀ (cdv : Value) (A : Around) (outer : List Env) (s : Shared) (H : Hp) (E : XK), Room (k + 1) (A.deeper (envOfC "almanac_in" (defScope s_almanac_in) s.heap.objs.size Z.f_almanac_in cdv)) → ∃ t, PXSs (cxOf (L2.CX P w) P w K mg base NN_almanac_in "almanac_in" (defScope s_almanac_in) Z.f_almanac_in cdv A outer s H E) (fun cls d _ H => E cls d H) (defBody s_almanac_in) t (TX_almanac_in g_is_wind_word g_wind_in ok_BadText) :=
  fun cdv A outer s H E hr => ⟨_, (pxss_cons (pxs_ok (pps_if (ppt_cmp (cm_eq (hu64 (hr.mono (Nat.le_succ _)))) (ppe_var 0) ppe_str (nomark _))
    (ppss_one (pps_ret (ppc_lst ppa_nil)))
    ppss_nil))
    (pxss_cons (pxs_ok (pps_set (i := 1) sc_almanac_in.nd (ppc_val (ppe_split (ppe_var 0) ppe_str))))
    (pxss_cons (pxs_for (passes_of rfl) rfl (ppi_e (by rfl) Z.z_enumerate (ppa_cons (ppe_var 1) ppa_nil)) (ptg_tup (n := 2) rfl (ptgs_cons (ptg_name (i := 2) sc_almanac_in.nd) (ptgs_cons (ptg_name (i := 3) sc_almanac_in.nd) ptgs_nil)))
    (pxss_one (pxs_if (ppt_not (ppt_val (ppe_frz (ppc_callA O_is_wind_word (hr.mono (Nat.le_succ _)) (by rfl) Z.m_is_wind_word Z.F_is_wind_word.kp Z.b_is_wind_word (ppa_cons (ppe_var 3) ppa_nil)))))
    (pxss_one (pxs_raise rfl (takes_of rfl rfl rfl rfl) (XB.over (xb "BadText")) Z.x_BadText.own Z.x_BadText.ns Z.iC_BadText Z.tI_BadText OI_BadText hr Z.bI_BadText (by rfl) Z.x_BadText.gm (ppa_cons (ppe_var 2) ppa_nil)))
    pxss_nil)))
    (pxss_one (pxs_ok (pps_ret (ppc_lcL (own := [("word", 3)]) rfl sc_almanac_in.nd (ppi_seq (ppe_var 1)) (blkOk_by (N := NN_almanac_in) (sc := defScope s_almanac_in) (by decide +kernel)) (fun _ _ _ _ _ => ((ptg_name (i := 3) sc_almanac_in.nd)).lift) (fun _ _ _ _ _ => (ppts_nil).lift) (fun _ _ _ _ _ => ((ppe_frz (ppc_callA O_wind_in (hr.mono (Nat.le_succ _)) (by rfl) Z.m_wind_in Z.F_wind_in.kp Z.b_wind_in (ppa_cons (ppe_var 3) ppa_nil)))).lift))))))))⟩
theorem bdI_BadText {k : Nat} {ok : D → Prop} : FnOk P w K mg base CX0 (k + 1) Z.fI_BadText Z.fdI_BadText ["self", "at"] (spI K "BadText" Z.C_BadText ok) :=
  ok_init (m := "this word is not so written") Z.FI_BadText ⟨rfl, rfl, rfl, by decide +kernel, rfl, by decide +kernel, by decide +kernel⟩ Z.x_BadText fun cdv A outer s H E hr => ⟨_, rdi_var, pss_cons (ps_expr (pe_oyinit (B := (xb "BadText").nm) (XB.over (xb "BadText")) (by rfl) Z.z_ValueError Z.vI_BadText (pa_cons (pe_var (i := 0) rfl (.inl rfl) (by decide) (by decide)) (pa_cons pe_str pa_nil)))) (pss_one (ps_oyst (XB.over (xb "BadText")) (pe_var (i := 0) rfl (.inl rfl) (by decide) (by decide)) (pe_var (i := 1) rfl (.inl rfl) (by decide) (by decide))))⟩
end
section
variable {P : Program} {w : World} {K : PySem.W.Frag} {mg : Str → Option Value} {base : Heap} (Z : Tx K mg)
include Z
theorem ok_figures_of : FnOk P w K mg base CX0 1 Z.f_figures_of Z.fd_figures_of ["number"] (spA K 1 g_figures_of) := okA Z.F_figures_of sc_figures_of (bd_figures_of Z (k := 0) ) rd_figures_of
theorem ok_number_of_figures : FnOk P w K mg base CX0 1 Z.f_number_of_figures Z.fd_number_of_figures ["figures"] (spA K 1 g_number_of_figures) := okA Z.F_number_of_figures sc_number_of_figures (bd_number_of_figures Z (k := 0) ) rd_number_of_figures
theorem ok_is_figures : FnOk P w K mg base CX0 1 Z.f_is_figures Z.fd_is_figures ["word"] (spA K 1 g_is_figures) := okA Z.F_is_figures sc_is_figures (bd_is_figures Z (k := 0) ) rd_is_figures
theorem ok_number_text : FnOk P w K mg base CX0 2 Z.f_number_text Z.fd_number_text ["number"] (spA K 1 g_number_text) := okA Z.F_number_text sc_number_text (bd_number_text Z (k := 1) ((ok_figures_of Z).mono (by decide))) rd_number_text
theorem ok_is_number_word : FnOk P w K mg base CX0 2 Z.f_is_number_word Z.fd_is_number_word ["word"] (spA K 1 g_is_number_word) := okA Z.F_is_number_word sc_is_number_word (bd_is_number_word Z (k := 1) ((ok_is_figures Z).mono (by decide))) rd_is_number_word
theorem ok_number_in : FnOk P w K mg base CX0 2 Z.f_number_in Z.fd_number_in ["word"] (spA K 1 g_number_in) := okA Z.F_number_in sc_number_in (bd_number_in Z (k := 1) ((ok_number_of_figures Z).mono (by decide))) rd_number_in
theorem ok_wind_text : FnOk P w K mg base CX0 2 Z.f_wind_text Z.fd_wind_text ["wind"] (spA K 1 g_wind_text) := okA Z.F_wind_text sc_wind_text (bd_wind_text Z (k := 1) ((ok_figures_of Z).mono (by decide))) rd_wind_text
theorem ok_is_wind_word : FnOk P w K mg base CX0 2 Z.f_is_wind_word Z.fd_is_wind_word ["word"] (spA K 1 g_is_wind_word) := okA Z.F_is_wind_word sc_is_wind_word (bd_is_wind_word Z (k := 1) ((ok_is_figures Z).mono (by decide))) rd_is_wind_word
theorem ok_wind_in : FnOk P w K mg base CX0 2 Z.f_wind_in Z.fd_wind_in ["word"] (spA K 1 g_wind_in) := okA Z.F_wind_in sc_wind_in (bd_wind_in Z (k := 1) ((ok_number_of_figures Z).mono (by decide))) rd_wind_in
theorem ok_dune_text : FnOk P w K mg base CX0 3 Z.f_dune_text Z.fd_dune_text ["dune"] (spA K 1 g_dune_text) := okA Z.F_dune_text sc_dune_text (bd_dune_text Z (k := 2) ((ok_number_text Z).mono (by decide))) rd_dune_text
theorem ok_almanac_text : FnOk P w K mg base CX0 3 Z.f_almanac_text Z.fd_almanac_text ["almanac"] (spA K 1 g_almanac_text) := okA Z.F_almanac_text sc_almanac_text (bd_almanac_text Z (k := 2) ((ok_wind_text Z).mono (by decide))) rd_almanac_text
theorem ok_dune_in : FnOk P w K mg base CX0 3 Z.f_dune_in Z.fd_dune_in ["text"] (spA K 1 g_dune_in) := okA Z.F_dune_in sc_dune_in (bd_dune_in Z (k := 2) ((ok_is_number_word Z).mono (by decide)) ((ok_number_in Z).mono (by decide))) rd_dune_in
theorem ok_almanac_in : FnOk P w K mg base CX0 3 Z.f_almanac_in Z.fd_almanac_in ["text"] (spA K 1 g_almanac_in) := okA Z.F_almanac_in sc_almanac_in (bd_almanac_in Z (k := 2) ((ok_is_wind_word Z).mono (by decide)) ((ok_wind_in Z).mono (by decide))) rd_almanac_in
theorem ok__law_cell_at : FnOk P w K mg base CX0 1 Z.f__law_cell_at Z.fd__law_cell_at ["_law_script", "_law_k"] (spA K 2 g__law_cell_at) := okA Z.F__law_cell_at sc__law_cell_at (bd__law_cell_at Z (k := 0) ) rd__law_cell_at
theorem ok__law_box : FnOk P w K mg base CX0 2 Z.f__law_box Z.fd__law_box ["_law_script", "_law_k"] (spA K 2 g__law_box) := okA Z.F__law_box sc__law_box (bd__law_box Z (k := 1) ((ok__law_cell_at Z).mono (by decide))) rd__law_box
theorem ok__law_take_0 : FnOk P w K mg base CX0 1 Z.f__law_take Z.fd__law_take ["_law_box_here", "_law_size"] (spB K 2 g_take0) := okB Z.F__law_take sc__law_take (bd__law_take Z (k := 0) (fnNoneB Z.F__law_take)) rd_take0
theorem ok__law_take : FnOk P w K mg base CX0 2 Z.f__law_take Z.fd__law_take ["_law_box_here", "_law_size"] (spB K 2 (g_take 100000000000000)) := okB Z.F__law_take sc__law_take (bd__law_take Z (k := 1) ((ok__law_take_0 Z).mono (by decide))) rd_take
theorem ok__law_of : FnOk P w K mg base CX0 3 Z.f__law_of Z.fd__law_of ["_law_box_here", "_law_some"] (spB K 2 g__law_ofT) := okB Z.F__law_of sc__law_of (bd__law_of Z (k := 2) ((ok__law_take Z).mono (by decide))) rd__law_ofT
theorem ok__law_same_0 : FnOk P w K mg base CX0 1 Z.f__law_same Z.fd__law_same ["_law_told", "_law_due"] (spA K 2 (gS 1)) := okA Z.F__law_same sc__law_same (bd__law_same Z (k := 0) (fnNoneA Z.F__law_same)) (rd_same 0)
theorem ok__law_same_1 : FnOk P w K mg base CX0 2 Z.f__law_same Z.fd__law_same ["_law_told", "_law_due"] (spA K 2 (gS 2)) := okA Z.F__law_same sc__law_same (bd__law_same Z (k := 1) ((ok__law_same_0 Z).mono (by decide))) (rd_same 1)
theorem ok__law_same_2 : FnOk P w K mg base CX0 3 Z.f__law_same Z.fd__law_same ["_law_told", "_law_due"] (spA K 2 (gS 3)) := okA Z.F__law_same sc__law_same (bd__law_same Z (k := 2) ((ok__law_same_1 Z).mono (by decide))) (rd_same 2)
theorem ok__law_same : FnOk P w K mg base CX0 4 Z.f__law_same Z.fd__law_same ["_law_told", "_law_due"] (spA K 2 (gS 4)) := okA Z.F__law_same sc__law_same (bd__law_same Z (k := 3) ((ok__law_same_2 Z).mono (by decide))) (rd_same 3)
theorem ok__law_dune : FnOk P w K mg base CX0 3 Z.f__law_dune Z.fd__law_dune ["_law_box_here", "_law_size"] (spB K 2 g__law_dune) := okB Z.F__law_dune sc__law_dune (bd__law_dune Z (k := 2) ((ok__law_take Z).mono (by decide))) rd__law_dune
theorem ok__law_slope : FnOk P w K mg base CX0 3 Z.f__law_slope Z.fd__law_slope ["_law_box_here"] (spB K 1 g__law_slope) := okB Z.F__law_slope sc__law_slope (bd__law_slope Z (k := 2) ((ok__law_take Z).mono (by decide))) rd__law_slope
theorem ok__law_winds : FnOk P w K mg base CX0 4 Z.f__law_winds Z.fd__law_winds ["_law_box_here", "_law_size"] (spB K 2 g__law_winds) := okB Z.F__law_winds sc__law_winds (bd__law_winds Z (k := 3) ((ok__law_take Z).mono (by decide)) ((ok__law_slope Z).mono (by decide))) rd__law_winds
theorem ok__law_is_figures : FnOk P w K mg base CX0 1 Z.f__law_is_figures Z.fd__law_is_figures ["_law_sign"] (spA K 1 g__law_is_figures) := okA Z.F__law_is_figures sc__law_is_figures (bd__law_is_figures Z (k := 0) ) rd__law_is_figures
theorem ok__law_dune_of : FnOk P w K mg base CX0 2 Z.f__law_dune_of Z.fd__law_dune_of ["_law_words"] (spA K 1 g__law_dune_of) := okA Z.F__law_dune_of sc__law_dune_of (bd__law_dune_of Z (k := 1) ((ok__law_is_figures Z).mono (by decide))) rd__law_dune_of
theorem ok__law_winds_of : FnOk P w K mg base CX0 2 Z.f__law_winds_of Z.fd__law_winds_of ["_law_words"] (spA K 1 g__law_winds_of) := okA Z.F__law_winds_of sc__law_winds_of (bd__law_winds_of Z (k := 1) ((ok__law_is_figures Z).mono (by decide))) rd__law_winds_of
theorem okI_BadText : FnOk P w K mg base CX0 1 Z.fI_BadText Z.fdI_BadText ["self", "at"] (spI K "BadText" Z.C_BadText (fun _ => True)) := bdI_BadText Z (k := 0)
theorem okx_dune_in : FnOk P w K mg base (L2.CX P w) 4 Z.f_dune_in Z.fd_dune_in ["text"] (spX K 1 gx_dune_in) := okX Z.F_dune_in sc_dune_in (bdx_dune_in Z (k := 2) ((ok_is_number_word Z).mono (by decide)) ((ok_number_in Z).mono (by decide)) ((okI_BadText Z).mono (by decide))) rdx_dune_in
theorem okx_almanac_in : FnOk P w K mg base (L2.CX P w) 4 Z.f_almanac_in Z.fd_almanac_in ["text"] (spX K 1 gx_almanac_in) := okX Z.F_almanac_in sc_almanac_in (bdx_almanac_in Z (k := 2) ((ok_is_wind_word Z).mono (by decide)) ((ok_wind_in Z).mono (by decide)) ((okI_BadText Z).mono (by decide))) rdx_almanac_in
theorem ok__law_read : FnOk P w K mg base CX0 5 Z.f__law_read Z.fd__law_read ["_law_words", "_law_is_dune_text"] (spA K 2 g__law_read) := okA Z.F__law_read sc__law_read (bd__law_read Z (k := 4) ((ok_dune_in Z).mono (by decide)) ((ok_almanac_in Z).mono (by decide)) ((okx_dune_in Z).mono (by decide)) ((okx_almanac_in Z).mono (by decide))) rd__law_read
theorem ok__law_spoilt : FnOk P w K mg base CX0 4 Z.f__law_spoilt Z.fd__law_spoilt ["_law_box_here", "_law_words"] (spB K 2 g__law_spoilt) := okB Z.F__law_spoilt sc__law_spoilt (bd__law_spoilt Z (k := 3) ((ok__law_take Z).mono (by decide)) ((ok__law_of Z).mono (by decide))) rd__law_spoilt
theorem ok_law : FnOk P w K mg base CX0 6 Z.f_law Z.fd_law ["_law_script"] (spA K 1 g_law) := okA Z.F_law sc_law (bd_law Z (k := 5) ((ok_dune_text Z).mono (by decide)) ((ok_almanac_text Z).mono (by decide)) ((ok_dune_in Z).mono (by decide)) ((ok_almanac_in Z).mono (by decide)) ((ok__law_box Z).mono (by decide)) ((ok__law_same Z).mono (by decide)) ((ok__law_dune Z).mono (by decide)) ((ok__law_winds Z).mono (by decide)) ((ok__law_dune_of Z).mono (by decide)) ((ok__law_winds_of Z).mono (by decide)) ((ok__law_read Z).mono (by decide)) ((ok__law_spoilt Z).mono (by decide))) rd_law
end
set_option maxHeartbeats 4000000 in
theorem all_mk {l : PySem.W.OpenLaw} {w : World} {K : PySem.W.Frag} {h : Heap} {mg : Str → Option Value} {fa : Addr} (X : K.In h) (G : h.Ns mainGlobals mg) (hfa : mg "law" = some (.ref fa)) {f0 : Addr} {od0 an0 : Option Addr} {sl0 : Array (Option Value)} {oc0 kV0 dc0 pm0 cd0 ct0 : Value} {f1 : Addr} {od1 an1 : Option Addr} {sl1 : Array (Option Value)} {oc1 kV1 dc1 pm1 cd1 ct1 : Value} {f2 : Addr} {od2 an2 : Option Addr} {sl2 : Array (Option Value)} {oc2 kV2 dc2 pm2 cd2 ct2 : Value} {f3 : Addr} {od3 an3 : Option Addr} {sl3 : Array (Option Value)} {oc3 kV3 dc3 pm3 cd3 ct3 : Value} {f4 : Addr} {od4 an4 : Option Addr} {sl4 : Array (Option Value)} {oc4 kV4 dc4 pm4 cd4 ct4 : Value} {f5 : Addr} {od5 an5 : Option Addr} {sl5 : Array (Option Value)} {oc5 kV5 dc5 pm5 cd5 ct5 : Value} {f6 : Addr} {od6 an6 : Option Addr} {sl6 : Array (Option Value)} {oc6 kV6 dc6 pm6 cd6 ct6 : Value} {f7 : Addr} {od7 an7 : Option Addr} {sl7 : Array (Option Value)} {oc7 kV7 dc7 pm7 cd7 ct7 : Value} {f8 : Addr} {od8 an8 : Option Addr} {sl8 : Array (Option Value)} {oc8 kV8 dc8 pm8 cd8 ct8 : Value} {f9 : Addr} {od9 an9 : Option Addr} {sl9 : Array (Option Value)} {oc9 kV9 dc9 pm9 cd9 ct9 : Value} {f10 : Addr} {od10 an10 : Option Addr} {sl10 : Array (Option Value)} {oc10 kV10 dc10 pm10 cd10 ct10 : Value} {f11 : Addr} {od11 an11 : Option Addr} {sl11 : Array (Option Value)} {oc11 kV11 dc11 pm11 cd11 ct11 : Value} {f12 : Addr} {od12 an12 : Option Addr} {sl12 : Array (Option Value)} {oc12 kV12 dc12 pm12 cd12 ct12 : Value} {f13 : Addr} {od13 an13 : Option Addr} {sl13 : Array (Option Value)} {oc13 kV13 dc13 pm13 cd13 ct13 : Value} {f14 : Addr} {od14 an14 : Option Addr} {sl14 : Array (Option Value)} {oc14 kV14 dc14 pm14 cd14 ct14 : Value} {f15 : Addr} {od15 an15 : Option Addr} {sl15 : Array (Option Value)} {oc15 kV15 dc15 pm15 cd15 ct15 : Value} {f16 : Addr} {od16 an16 : Option Addr} {sl16 : Array (Option Value)} {oc16 kV16 dc16 pm16 cd16 ct16 : Value} {f17 : Addr} {od17 an17 : Option Addr} {sl17 : Array (Option Value)} {oc17 kV17 dc17 pm17 cd17 ct17 : Value} {f18 : Addr} {od18 an18 : Option Addr} {sl18 : Array (Option Value)} {oc18 kV18 dc18 pm18 cd18 ct18 : Value} {f19 : Addr} {od19 an19 : Option Addr} {sl19 : Array (Option Value)} {oc19 kV19 dc19 pm19 cd19 ct19 : Value} {f20 : Addr} {od20 an20 : Option Addr} {sl20 : Array (Option Value)} {oc20 kV20 dc20 pm20 cd20 ct20 : Value} {f21 : Addr} {od21 an21 : Option Addr} {sl21 : Array (Option Value)} {oc21 kV21 dc21 pm21 cd21 ct21 : Value} {f22 : Addr} {od22 an22 : Option Addr} {sl22 : Array (Option Value)} {oc22 kV22 dc22 pm22 cd22 ct22 : Value} {f23 : Addr} {od23 an23 : Option Addr} {sl23 : Array (Option Value)} {oc23 kV23 dc23 pm23 cd23 ct23 : Value} {f24 : Addr} {od24 an24 : Option Addr} {sl24 : Array (Option Value)} {oc24 kV24 dc24 pm24 cd24 ct24 : Value} {f25 : Addr} {od25 an25 : Option Addr} {sl25 : Array (Option Value)} {oc25 kV25 dc25 pm25 cd25 ct25 : Value} {f26 : Addr} {od26 an26 : Option Addr} {sl26 : Array (Option Value)} {oc26 kV26 dc26 pm26 cd26 ct26 : Value} {xC0 xN0 : Addr} {xq0 : Str} {xbs0 xsub0 : List Value} {xsn0 : List Str} {xab0 : Bool} {xcol0 : Option Bool} {xdd0 : Option Addr} {xm00 xm01 xm02 xm03 xm05 : Option Value} {xfi0 : Addr} {xod0 xan0 : Option Addr} {xsl0 : Array (Option Value)} {xoc0 xkV0 xdc0 xpm0 xcd0 xct0 : Value} {gt0 : Tok} {gt1 : Tok} {gt2 : Tok}
    (a0 : PySem.W.nsIn K mainGlobals "figures_of" = some (some (.ref f0))) (l0 : K.lookup f0 = some ⟨oc0, od0, .func (PySem.W.fnOf "figures_of" "figures_of" (defArgs s_figures_of) (defBody s_figures_of) (defScope s_figures_of) .none kV0 dc0 pm0 an0 cd0 ct0), sl0⟩) (c0 : PySem.W.codeIn K cd0 "figures_of" = true) (k0 : PySem.W.keepIn K (.ref f0) = true)
    (a1 : PySem.W.nsIn K mainGlobals "number_of_figures" = some (some (.ref f1))) (l1 : K.lookup f1 = some ⟨oc1, od1, .func (PySem.W.fnOf "number_of_figures" "number_of_figures" (defArgs s_number_of_figures) (defBody s_number_of_figures) (defScope s_number_of_figures) .none kV1 dc1 pm1 an1 cd1 ct1), sl1⟩) (c1 : PySem.W.codeIn K cd1 "number_of_figures" = true) (k1 : PySem.W.keepIn K (.ref f1) = true)
    (a2 : PySem.W.nsIn K mainGlobals "is_figures" = some (some (.ref f2))) (l2 : K.lookup f2 = some ⟨oc2, od2, .func (PySem.W.fnOf "is_figures" "is_figures" (defArgs s_is_figures) (defBody s_is_figures) (defScope s_is_figures) .none kV2 dc2 pm2 an2 cd2 ct2), sl2⟩) (c2 : PySem.W.codeIn K cd2 "is_figures" = true) (k2 : PySem.W.keepIn K (.ref f2) = true)
    (a3 : PySem.W.nsIn K mainGlobals "number_text" = some (some (.ref f3))) (l3 : K.lookup f3 = some ⟨oc3, od3, .func (PySem.W.fnOf "number_text" "number_text" (defArgs s_number_text) (defBody s_number_text) (defScope s_number_text) .none kV3 dc3 pm3 an3 cd3 ct3), sl3⟩) (c3 : PySem.W.codeIn K cd3 "number_text" = true) (k3 : PySem.W.keepIn K (.ref f3) = true)
    (a4 : PySem.W.nsIn K mainGlobals "is_number_word" = some (some (.ref f4))) (l4 : K.lookup f4 = some ⟨oc4, od4, .func (PySem.W.fnOf "is_number_word" "is_number_word" (defArgs s_is_number_word) (defBody s_is_number_word) (defScope s_is_number_word) .none kV4 dc4 pm4 an4 cd4 ct4), sl4⟩) (c4 : PySem.W.codeIn K cd4 "is_number_word" = true) (k4 : PySem.W.keepIn K (.ref f4) = true)
    (a5 : PySem.W.nsIn K mainGlobals "number_in" = some (some (.ref f5))) (l5 : K.lookup f5 = some ⟨oc5, od5, .func (PySem.W.fnOf "number_in" "number_in" (defArgs s_number_in) (defBody s_number_in) (defScope s_number_in) .none kV5 dc5 pm5 an5 cd5 ct5), sl5⟩) (c5 : PySem.W.codeIn K cd5 "number_in" = true) (k5 : PySem.W.keepIn K (.ref f5) = true)
    (a6 : PySem.W.nsIn K mainGlobals "wind_text" = some (some (.ref f6))) (l6 : K.lookup f6 = some ⟨oc6, od6, .func (PySem.W.fnOf "wind_text" "wind_text" (defArgs s_wind_text) (defBody s_wind_text) (defScope s_wind_text) .none kV6 dc6 pm6 an6 cd6 ct6), sl6⟩) (c6 : PySem.W.codeIn K cd6 "wind_text" = true) (k6 : PySem.W.keepIn K (.ref f6) = true)
    (a7 : PySem.W.nsIn K mainGlobals "is_wind_word" = some (some (.ref f7))) (l7 : K.lookup f7 = some ⟨oc7, od7, .func (PySem.W.fnOf "is_wind_word" "is_wind_word" (defArgs s_is_wind_word) (defBody s_is_wind_word) (defScope s_is_wind_word) .none kV7 dc7 pm7 an7 cd7 ct7), sl7⟩) (c7 : PySem.W.codeIn K cd7 "is_wind_word" = true) (k7 : PySem.W.keepIn K (.ref f7) = true)
    (a8 : PySem.W.nsIn K mainGlobals "wind_in" = some (some (.ref f8))) (l8 : K.lookup f8 = some ⟨oc8, od8, .func (PySem.W.fnOf "wind_in" "wind_in" (defArgs s_wind_in) (defBody s_wind_in) (defScope s_wind_in) .none kV8 dc8 pm8 an8 cd8 ct8), sl8⟩) (c8 : PySem.W.codeIn K cd8 "wind_in" = true) (k8 : PySem.W.keepIn K (.ref f8) = true)
    (a9 : PySem.W.nsIn K mainGlobals "dune_text" = some (some (.ref f9))) (l9 : K.lookup f9 = some ⟨oc9, od9, .func (PySem.W.fnOf "dune_text" "dune_text" (defArgs s_dune_text) (defBody s_dune_text) (defScope s_dune_text) .none kV9 dc9 pm9 an9 cd9 ct9), sl9⟩) (c9 : PySem.W.codeIn K cd9 "dune_text" = true) (k9 : PySem.W.keepIn K (.ref f9) = true)
    (a10 : PySem.W.nsIn K mainGlobals "almanac_text" = some (some (.ref f10))) (l10 : K.lookup f10 = some ⟨oc10, od10, .func (PySem.W.fnOf "almanac_text" "almanac_text" (defArgs s_almanac_text) (defBody s_almanac_text) (defScope s_almanac_text) .none kV10 dc10 pm10 an10 cd10 ct10), sl10⟩) (c10 : PySem.W.codeIn K cd10 "almanac_text" = true) (k10 : PySem.W.keepIn K (.ref f10) = true)
    (a11 : PySem.W.nsIn K mainGlobals "dune_in" = some (some (.ref f11))) (l11 : K.lookup f11 = some ⟨oc11, od11, .func (PySem.W.fnOf "dune_in" "dune_in" (defArgs s_dune_in) (defBody s_dune_in) (defScope s_dune_in) .none kV11 dc11 pm11 an11 cd11 ct11), sl11⟩) (c11 : PySem.W.codeIn K cd11 "dune_in" = true) (k11 : PySem.W.keepIn K (.ref f11) = true)
    (a12 : PySem.W.nsIn K mainGlobals "almanac_in" = some (some (.ref f12))) (l12 : K.lookup f12 = some ⟨oc12, od12, .func (PySem.W.fnOf "almanac_in" "almanac_in" (defArgs s_almanac_in) (defBody s_almanac_in) (defScope s_almanac_in) .none kV12 dc12 pm12 an12 cd12 ct12), sl12⟩) (c12 : PySem.W.codeIn K cd12 "almanac_in" = true) (k12 : PySem.W.keepIn K (.ref f12) = true)
    (a13 : PySem.W.nsIn K mainGlobals "_law_cell_at" = some (some (.ref f13))) (l13 : K.lookup f13 = some ⟨oc13, od13, .func (PySem.W.fnOf "_law_cell_at" "_law_cell_at" (defArgs s__law_cell_at) (defBody s__law_cell_at) (defScope s__law_cell_at) .none kV13 dc13 pm13 an13 cd13 ct13), sl13⟩) (c13 : PySem.W.codeIn K cd13 "_law_cell_at" = true) (k13 : PySem.W.keepIn K (.ref f13) = true)
    (a14 : PySem.W.nsIn K mainGlobals "_law_box" = some (some (.ref f14))) (l14 : K.lookup f14 = some ⟨oc14, od14, .func (PySem.W.fnOf "_law_box" "_law_box" (defArgs s__law_box) (defBody s__law_box) (defScope s__law_box) .none kV14 dc14 pm14 an14 cd14 ct14), sl14⟩) (c14 : PySem.W.codeIn K cd14 "_law_box" = true) (k14 : PySem.W.keepIn K (.ref f14) = true)
    (a15 : PySem.W.nsIn K mainGlobals "_law_take" = some (some (.ref f15))) (l15 : K.lookup f15 = some ⟨oc15, od15, .func (PySem.W.fnOf "_law_take" "_law_take" (defArgs s__law_take) (defBody s__law_take) (defScope s__law_take) .none kV15 dc15 pm15 an15 cd15 ct15), sl15⟩) (c15 : PySem.W.codeIn K cd15 "_law_take" = true) (k15 : PySem.W.keepIn K (.ref f15) = true)
    (a16 : PySem.W.nsIn K mainGlobals "_law_of" = some (some (.ref f16))) (l16 : K.lookup f16 = some ⟨oc16, od16, .func (PySem.W.fnOf "_law_of" "_law_of" (defArgs s__law_of) (defBody s__law_of) (defScope s__law_of) .none kV16 dc16 pm16 an16 cd16 ct16), sl16⟩) (c16 : PySem.W.codeIn K cd16 "_law_of" = true) (k16 : PySem.W.keepIn K (.ref f16) = true)
    (a17 : PySem.W.nsIn K mainGlobals "_law_same" = some (some (.ref f17))) (l17 : K.lookup f17 = some ⟨oc17, od17, .func (PySem.W.fnOf "_law_same" "_law_same" (defArgs s__law_same) (defBody s__law_same) (defScope s__law_same) .none kV17 dc17 pm17 an17 cd17 ct17), sl17⟩) (c17 : PySem.W.codeIn K cd17 "_law_same" = true) (k17 : PySem.W.keepIn K (.ref f17) = true)
    (a18 : PySem.W.nsIn K mainGlobals "_law_dune" = some (some (.ref f18))) (l18 : K.lookup f18 = some ⟨oc18, od18, .func (PySem.W.fnOf "_law_dune" "_law_dune" (defArgs s__law_dune) (defBody s__law_dune) (defScope s__law_dune) .none kV18 dc18 pm18 an18 cd18 ct18), sl18⟩) (c18 : PySem.W.codeIn K cd18 "_law_dune" = true) (k18 : PySem.W.keepIn K (.ref f18) = true)
    (a19 : PySem.W.nsIn K mainGlobals "_law_slope" = some (some (.ref f19))) (l19 : K.lookup f19 = some ⟨oc19, od19, .func (PySem.W.fnOf "_law_slope" "_law_slope" (defArgs s__law_slope) (defBody s__law_slope) (defScope s__law_slope) .none kV19 dc19 pm19 an19 cd19 ct19), sl19⟩) (c19 : PySem.W.codeIn K cd19 "_law_slope" = true) (k19 : PySem.W.keepIn K (.ref f19) = true)
    (a20 : PySem.W.nsIn K mainGlobals "_law_winds" = some (some (.ref f20))) (l20 : K.lookup f20 = some ⟨oc20, od20, .func (PySem.W.fnOf "_law_winds" "_law_winds" (defArgs s__law_winds) (defBody s__law_winds) (defScope s__law_winds) .none kV20 dc20 pm20 an20 cd20 ct20), sl20⟩) (c20 : PySem.W.codeIn K cd20 "_law_winds" = true) (k20 : PySem.W.keepIn K (.ref f20) = true)
    (a21 : PySem.W.nsIn K mainGlobals "_law_is_figures" = some (some (.ref f21))) (l21 : K.lookup f21 = some ⟨oc21, od21, .func (PySem.W.fnOf "_law_is_figures" "_law_is_figures" (defArgs s__law_is_figures) (defBody s__law_is_figures) (defScope s__law_is_figures) .none kV21 dc21 pm21 an21 cd21 ct21), sl21⟩) (c21 : PySem.W.codeIn K cd21 "_law_is_figures" = true) (k21 : PySem.W.keepIn K (.ref f21) = true)
    (a22 : PySem.W.nsIn K mainGlobals "_law_dune_of" = some (some (.ref f22))) (l22 : K.lookup f22 = some ⟨oc22, od22, .func (PySem.W.fnOf "_law_dune_of" "_law_dune_of" (defArgs s__law_dune_of) (defBody s__law_dune_of) (defScope s__law_dune_of) .none kV22 dc22 pm22 an22 cd22 ct22), sl22⟩) (c22 : PySem.W.codeIn K cd22 "_law_dune_of" = true) (k22 : PySem.W.keepIn K (.ref f22) = true)
    (a23 : PySem.W.nsIn K mainGlobals "_law_winds_of" = some (some (.ref f23))) (l23 : K.lookup f23 = some ⟨oc23, od23, .func (PySem.W.fnOf "_law_winds_of" "_law_winds_of" (defArgs s__law_winds_of) (defBody s__law_winds_of) (defScope s__law_winds_of) .none kV23 dc23 pm23 an23 cd23 ct23), sl23⟩) (c23 : PySem.W.codeIn K cd23 "_law_winds_of" = true) (k23 : PySem.W.keepIn K (.ref f23) = true)
    (a24 : PySem.W.nsIn K mainGlobals "_law_read" = some (some (.ref f24))) (l24 : K.lookup f24 = some ⟨oc24, od24, .func (PySem.W.fnOf "_law_read" "_law_read" (defArgs s__law_read) (defBody s__law_read) (defScope s__law_read) .none kV24 dc24 pm24 an24 cd24 ct24), sl24⟩) (c24 : PySem.W.codeIn K cd24 "_law_read" = true) (k24 : PySem.W.keepIn K (.ref f24) = true)
    (a25 : PySem.W.nsIn K mainGlobals "_law_spoilt" = some (some (.ref f25))) (l25 : K.lookup f25 = some ⟨oc25, od25, .func (PySem.W.fnOf "_law_spoilt" "_law_spoilt" (defArgs s__law_spoilt) (defBody s__law_spoilt) (defScope s__law_spoilt) .none kV25 dc25 pm25 an25 cd25 ct25), sl25⟩) (c25 : PySem.W.codeIn K cd25 "_law_spoilt" = true) (k25 : PySem.W.keepIn K (.ref f25) = true)
    (a26 : PySem.W.nsIn K mainGlobals "law" = some (some (.ref f26))) (l26 : K.lookup f26 = some ⟨oc26, od26, .func (PySem.W.fnOf "law" "law" (defArgs s_law) (defBody s_law) (defScope s_law) .none kV26 dc26 pm26 an26 cd26 ct26), sl26⟩) (c26 : PySem.W.codeIn K cd26 "law" = true) (k26 : PySem.W.keepIn K (.ref f26) = true)
    (xh : PySem.W.specialIn K (.builtin "object.__class__") "__get__" = some (some (.builtin "getset_descriptor.__get__"))) (xt : PySem.W.takesIn K (.builtin "object.__class__") = some true)
    (xa0 : PySem.W.nsIn K mainGlobals "BadText" = some (some (.ref xC0))) (xl0 : K.lookup xC0 = some (excClassObj "BadText" xq0 xC0 xN0 xbs0 [.type "ValueError", .type "Exception", .type "BaseException", .type "object"] true xsn0 xsub0 xab0 xcol0 xdd0 xm00 xm01 xm02 xm03 xm05 "ValueError.__new__"))
    (xs0 : PySem.W.findIn K (.ref xC0) "__setattr__" = some (some (.builtin "object.__setattr__"))) (xg0 : PySem.W.findIn K (.ref xC0) "__getattribute__" = some (some (.builtin "BaseException.__getattribute__"))) (xo0 : PySem.W.findIn K (.ref xC0) "__getattr__" = some none) (xc0 : PySem.W.findIn K (.ref xC0) "__class__" = some (some (.builtin "object.__class__")))
    (xf0 : PySem.W.findIn K (.ref xC0) "at" = some none) (xk0 : PySem.W.keepIn K (.ref xC0) = true) (xe0 : PySem.W.subIn K (.ref xC0) (.type "BaseException") = some true) (xy0 : PySem.W.typeIn K (.ref xC0) = some (.type "type"))
    (xi0 : PySem.W.findIn K (.ref xC0) "__init__" = some (some (.ref xfi0))) (xw0 : PySem.W.typeIn K (.ref xfi0) = some (.type "function")) (xj0 : K.lookup xfi0 = some ⟨xoc0, xod0, .func (PySem.W.fnOf "__init__" "BadText.__init__" (defArgs si_BadText) (defBody si_BadText) (defScope si_BadText) .none xkV0 xdc0 xpm0 xan0 xcd0 xct0), xsl0⟩) (xr0 : PySem.W.codeIn K xcd0 "BadText.__init__" = true) (xz0 : PySem.W.keepIn K (.ref xfi0) = true) (xv0 : PySem.W.findCls K (.type "ValueError") (.type "type") "__init__" = some (.val (.builtin "ValueError.__init__")))
    (gc0 : PySem.W.nsIn K mainGlobals "BLOCK" = some (some (.int 1000000000000000000000000000000000000000000000000000000000000 gt0)))
    (gc1 : PySem.W.nsIn K mainGlobals "FIGURES" = some (some (.str ("0123456789" : Str) gt1)))
    (gc2 : PySem.W.nsIn K mainGlobals "LENGTH" = some (some (.int 60 gt2)))
    (z0 : PySem.W.nsIn K mainGlobals "ValueError" = some none)
    (z1 : PySem.W.nsIn K mainGlobals "abs" = some none)
    (z2 : PySem.W.nsIn K mainGlobals "all" = some none)
    (z3 : PySem.W.nsIn K mainGlobals "bool" = some none)
    (z4 : PySem.W.nsIn K mainGlobals "enumerate" = some none)
    (z5 : PySem.W.nsIn K mainGlobals "int" = some none)
    (z6 : PySem.W.nsIn K mainGlobals "isinstance" = some none)
    (z7 : PySem.W.nsIn K mainGlobals "len" = some none)
    (z8 : PySem.W.nsIn K mainGlobals "list" = some none)
    (z9 : PySem.W.nsIn K mainGlobals "min" = some none)
    (z10 : PySem.W.nsIn K mainGlobals "range" = some none)
    (z11 : PySem.W.nsIn K mainGlobals "str" = some none)
    (z12 : PySem.W.nsIn K mainGlobals "tuple" = some none)
    (z13 : PySem.W.nsIn K mainGlobals "zip" = some none) :
    ∃ fd : FuncData, (∀ (s : Shared) (v : Value), BindsTo s fd ⟨[v], []⟩ [("_law_script", v)]) ∧ ∀ base : Heap, K.In base → base.Ns mainGlobals mg → FnOk l.prog w K mg base CX0 6 fa fd ["_law_script"] (spA K 1 g_law) := by
  have e := hfa.symm.trans (PySem.W.mg_of X G a26)
  cases e
  exact ⟨PySem.W.fnOf "law" "law" (defArgs s_law) (defBody s_law) (defScope s_law) .none kV26 dc26 pm26 an26 cd26 ct26, fun s v => .of_eq rfl, fun base _ _ => ok_law { f_figures_of := _, fd_figures_of := _, F_figures_of := fun_mk (st := s_figures_of) l0 c0 k0, m_figures_of := PySem.W.mg_of X G a0, b_figures_of := (fun_mk (st := s_figures_of) l0 c0 k0).binds (ps := ["number"]) (fun _ _ _ _ _ _ us hl => match us, hl with | [_], _ => rfl), f_number_of_figures := _, fd_number_of_figures := _, F_number_of_figures := fun_mk (st := s_number_of_figures) l1 c1 k1, m_number_of_figures := PySem.W.mg_of X G a1, b_number_of_figures := (fun_mk (st := s_number_of_figures) l1 c1 k1).binds (ps := ["figures"]) (fun _ _ _ _ _ _ us hl => match us, hl with | [_], _ => rfl), f_is_figures := _, fd_is_figures := _, F_is_figures := fun_mk (st := s_is_figures) l2 c2 k2, m_is_figures := PySem.W.mg_of X G a2, b_is_figures := (fun_mk (st := s_is_figures) l2 c2 k2).binds (ps := ["word"]) (fun _ _ _ _ _ _ us hl => match us, hl with | [_], _ => rfl), f_number_text := _, fd_number_text := _, F_number_text := fun_mk (st := s_number_text) l3 c3 k3, m_number_text := PySem.W.mg_of X G a3, b_number_text := (fun_mk (st := s_number_text) l3 c3 k3).binds (ps := ["number"]) (fun _ _ _ _ _ _ us hl => match us, hl with | [_], _ => rfl), f_is_number_word := _, fd_is_number_word := _, F_is_number_word := fun_mk (st := s_is_number_word) l4 c4 k4, m_is_number_word := PySem.W.mg_of X G a4, b_is_number_word := (fun_mk (st := s_is_number_word) l4 c4 k4).binds (ps := ["word"]) (fun _ _ _ _ _ _ us hl => match us, hl with | [_], _ => rfl), f_number_in := _, fd_number_in := _, F_number_in := fun_mk (st := s_number_in) l5 c5 k5, m_number_in := PySem.W.mg_of X G a5, b_number_in := (fun_mk (st := s_number_in) l5 c5 k5).binds (ps := ["word"]) (fun _ _ _ _ _ _ us hl => match us, hl with | [_], _ => rfl), f_wind_text := _, fd_wind_text := _, F_wind_text := fun_mk (st := s_wind_text) l6 c6 k6, m_wind_text := PySem.W.mg_of X G a6, b_wind_text := (fun_mk (st := s_wind_text) l6 c6 k6).binds (ps := ["wind"]) (fun _ _ _ _ _ _ us hl => match us, hl with | [_], _ => rfl), f_is_wind_word := _, fd_is_wind_word := _, F_is_wind_word := fun_mk (st := s_is_wind_word) l7 c7 k7, m_is_wind_word := PySem.W.mg_of X G a7, b_is_wind_word := (fun_mk (st := s_is_wind_word) l7 c7 k7).binds (ps := ["word"]) (fun _ _ _ _ _ _ us hl => match us, hl with | [_], _ => rfl), f_wind_in := _, fd_wind_in := _, F_wind_in := fun_mk (st := s_wind_in) l8 c8 k8, m_wind_in := PySem.W.mg_of X G a8, b_wind_in := (fun_mk (st := s_wind_in) l8 c8 k8).binds (ps := ["word"]) (fun _ _ _ _ _ _ us hl => match us, hl with | [_], _ => rfl), f_dune_text := _, fd_dune_text := _, F_dune_text := fun_mk (st := s_dune_text) l9 c9 k9, m_dune_text := PySem.W.mg_of X G a9, b_dune_text := (fun_mk (st := s_dune_text) l9 c9 k9).binds (ps := ["dune"]) (fun _ _ _ _ _ _ us hl => match us, hl with | [_], _ => rfl), f_almanac_text := _, fd_almanac_text := _, F_almanac_text := fun_mk (st := s_almanac_text) l10 c10 k10, m_almanac_text := PySem.W.mg_of X G a10, b_almanac_text := (fun_mk (st := s_almanac_text) l10 c10 k10).binds (ps := ["almanac"]) (fun _ _ _ _ _ _ us hl => match us, hl with | [_], _ => rfl), f_dune_in := _, fd_dune_in := _, F_dune_in := fun_mk (st := s_dune_in) l11 c11 k11, m_dune_in := PySem.W.mg_of X G a11, b_dune_in := (fun_mk (st := s_dune_in) l11 c11 k11).binds (ps := ["text"]) (fun _ _ _ _ _ _ us hl => match us, hl with | [_], _ => rfl), f_almanac_in := _, fd_almanac_in := _, F_almanac_in := fun_mk (st := s_almanac_in) l12 c12 k12, m_almanac_in := PySem.W.mg_of X G a12, b_almanac_in := (fun_mk (st := s_almanac_in) l12 c12 k12).binds (ps := ["text"]) (fun _ _ _ _ _ _ us hl => match us, hl with | [_], _ => rfl), f__law_cell_at := _, fd__law_cell_at := _, F__law_cell_at := fun_mk (st := s__law_cell_at) l13 c13 k13, m__law_cell_at := PySem.W.mg_of X G a13, b__law_cell_at := (fun_mk (st := s__law_cell_at) l13 c13 k13).binds (ps := ["_law_script", "_law_k"]) (fun _ _ _ _ _ _ us hl => match us, hl with | [_, _], _ => rfl), f__law_box := _, fd__law_box := _, F__law_box := fun_mk (st := s__law_box) l14 c14 k14, m__law_box := PySem.W.mg_of X G a14, b__law_box := (fun_mk (st := s__law_box) l14 c14 k14).binds (ps := ["_law_script", "_law_k"]) (fun _ _ _ _ _ _ us hl => match us, hl with | [_, _], _ => rfl), f__law_take := _, fd__law_take := _, F__law_take := fun_mk (st := s__law_take) l15 c15 k15, m__law_take := PySem.W.mg_of X G a15, b__law_take := (fun_mk (st := s__law_take) l15 c15 k15).binds (ps := ["_law_box_here", "_law_size"]) (fun _ _ _ _ _ _ us hl => match us, hl with | [_, _], _ => rfl), f__law_of := _, fd__law_of := _, F__law_of := fun_mk (st := s__law_of) l16 c16 k16, m__law_of := PySem.W.mg_of X G a16, b__law_of := (fun_mk (st := s__law_of) l16 c16 k16).binds (ps := ["_law_box_here", "_law_some"]) (fun _ _ _ _ _ _ us hl => match us, hl with | [_, _], _ => rfl), f__law_same := _, fd__law_same := _, F__law_same := fun_mk (st := s__law_same) l17 c17 k17, m__law_same := PySem.W.mg_of X G a17, b__law_same := (fun_mk (st := s__law_same) l17 c17 k17).binds (ps := ["_law_told", "_law_due"]) (fun _ _ _ _ _ _ us hl => match us, hl with | [_, _], _ => rfl), f__law_dune := _, fd__law_dune := _, F__law_dune := fun_mk (st := s__law_dune) l18 c18 k18, m__law_dune := PySem.W.mg_of X G a18, b__law_dune := (fun_mk (st := s__law_dune) l18 c18 k18).binds (ps := ["_law_box_here", "_law_size"]) (fun _ _ _ _ _ _ us hl => match us, hl with | [_, _], _ => rfl), f__law_slope := _, fd__law_slope := _, F__law_slope := fun_mk (st := s__law_slope) l19 c19 k19, m__law_slope := PySem.W.mg_of X G a19, b__law_slope := (fun_mk (st := s__law_slope) l19 c19 k19).binds (ps := ["_law_box_here"]) (fun _ _ _ _ _ _ us hl => match us, hl with | [_], _ => rfl), f__law_winds := _, fd__law_winds := _, F__law_winds := fun_mk (st := s__law_winds) l20 c20 k20, m__law_winds := PySem.W.mg_of X G a20, b__law_winds := (fun_mk (st := s__law_winds) l20 c20 k20).binds (ps := ["_law_box_here", "_law_size"]) (fun _ _ _ _ _ _ us hl => match us, hl with | [_, _], _ => rfl), f__law_is_figures := _, fd__law_is_figures := _, F__law_is_figures := fun_mk (st := s__law_is_figures) l21 c21 k21, m__law_is_figures := PySem.W.mg_of X G a21, b__law_is_figures := (fun_mk (st := s__law_is_figures) l21 c21 k21).binds (ps := ["_law_sign"]) (fun _ _ _ _ _ _ us hl => match us, hl with | [_], _ => rfl), f__law_dune_of := _, fd__law_dune_of := _, F__law_dune_of := fun_mk (st := s__law_dune_of) l22 c22 k22, m__law_dune_of := PySem.W.mg_of X G a22, b__law_dune_of := (fun_mk (st := s__law_dune_of) l22 c22 k22).binds (ps := ["_law_words"]) (fun _ _ _ _ _ _ us hl => match us, hl with | [_], _ => rfl), f__law_winds_of := _, fd__law_winds_of := _, F__law_winds_of := fun_mk (st := s__law_winds_of) l23 c23 k23, m__law_winds_of := PySem.W.mg_of X G a23, b__law_winds_of := (fun_mk (st := s__law_winds_of) l23 c23 k23).binds (ps := ["_law_words"]) (fun _ _ _ _ _ _ us hl => match us, hl with | [_], _ => rfl), f__law_read := _, fd__law_read := _, F__law_read := fun_mk (st := s__law_read) l24 c24 k24, m__law_read := PySem.W.mg_of X G a24, b__law_read := (fun_mk (st := s__law_read) l24 c24 k24).binds (ps := ["_law_words", "_law_is_dune_text"]) (fun _ _ _ _ _ _ us hl => match us, hl with | [_, _], _ => rfl), f__law_spoilt := _, fd__law_spoilt := _, F__law_spoilt := fun_mk (st := s__law_spoilt) l25 c25 k25, m__law_spoilt := PySem.W.mg_of X G a25, b__law_spoilt := (fun_mk (st := s__law_spoilt) l25 c25 k25).binds (ps := ["_law_box_here", "_law_words"]) (fun _ _ _ _ _ _ us hl => match us, hl with | [_, _], _ => rfl), f_law := _, fd_law := _, F_law := fun_mk (st := s_law) l26 c26 k26, m_law := PySem.W.mg_of X G a26, b_law := (fun_mk (st := s_law) l26 c26 k26).binds (ps := ["_law_script"]) (fun _ _ _ _ _ _ us hl => match us, hl with | [_], _ => rfl), C_BadText := xC0, x_BadText := ⟨⟨xq0, xN0, xbs0, xsn0, xsub0, xab0, xcol0, xdd0, xm00, xm01, xm02, xm03, xm05, by unfold xtl; rw [(xb_value "BadText" (by decide +kernel))]; exact xl0⟩, xs0, xe0, xy0, xk0, ⟨xg0, xo0, xc0, xh, xt⟩, xa0, xf0, PySem.W.mg_of X G xa0⟩, fI_BadText := _, fdI_BadText := _, iC_BadText := xi0, tI_BadText := xw0, FI_BadText := fun_mk (st := si_BadText) xj0 xr0 xz0, bI_BadText := (fun_mk (st := si_BadText) xj0 xr0 xz0).binds (ps := ["self", "at"]) (fun _ _ _ _ _ _ us hl => match us, hl with | [_, _], _ => rfl), vI_BadText := xv0, m_BLOCK := ⟨_, PySem.W.mg_of X G gc0⟩, m_FIGURES := ⟨_, PySem.W.mg_of X G gc1⟩, m_LENGTH := ⟨_, PySem.W.mg_of X G gc2⟩, z_ValueError := PySem.W.mg_none_of X G z0, z_abs := PySem.W.mg_none_of X G z1, z_all := PySem.W.mg_none_of X G z2, z_bool := PySem.W.mg_none_of X G z3, z_enumerate := PySem.W.mg_none_of X G z4, z_int := PySem.W.mg_none_of X G z5, z_isinstance := PySem.W.mg_none_of X G z6, z_len := PySem.W.mg_none_of X G z7, z_list := PySem.W.mg_none_of X G z8, z_min := PySem.W.mg_none_of X G z9, z_range := PySem.W.mg_none_of X G z10, z_str := PySem.W.mg_none_of X G z11, z_tuple := PySem.W.mg_none_of X G z12, z_zip := PySem.W.mg_none_of X G z13 }⟩
theorem law_sp (K : PySem.W.Frag) (H : Hp) (a : Addr) (ns : List Int) (hl : ns.length ≤ 63) (_ : Only H) (hS : SqL K H a (ns.map V.int)) : spA K 1 g_law [.ref a] H (fun v _ => v = .bl true) fun _ _ _ => False := by
  refine ⟨H, [.scr ns], fun c => c = .val (.bl true), rfl, .refl H, .cons (.scr hS) .nil, ⟨ns, rfl, hl, rfl⟩, fun v c F' H' u S e => ?_⟩
  subst e
  obtain ⟨v', h1, h2⟩ := S.val 0 (.bl true) rfl
  cases h1
  exact h2.blInv
end Pl
open PySem PySem.W PyProof.Rows
set_option maxHeartbeats 0 in
theorem PySem.Challenge.cw_dunebooks_k65_texts_of_dunes_and_almanac_holds : PySem.Challenge.rw_dunebooks_k65_texts_of_dunes_and_almanac.Holds := by
  w_on; o_law; k_head; (case hw => w_witness2)
  k_fill
  refine L2.walk_ofK (l := PySem.Challenge.rw_dunebooks_k65_texts_of_dunes_and_almanac) (n := 63) (k := 6) (x := "_law_script") (CX := L2.CX0) (sp := fun K => Pl.spA K 1 Pl.g_law) rfl (by decide) rfl ⟨rfl, by decide, by decide⟩ (fun w h Y => PySem.W.kIn_of Y) ?F Pl.law_sp (fun _ _ _ _ h => h)
  case F =>
    intro w mg fa h KX G hmg
    refine' Pl.all_mk KX G hmg ?a0 ?l0 ?c0 ?k0 ?a1 ?l1 ?c1 ?k1 ?a2 ?l2 ?c2 ?k2 ?a3 ?l3 ?c3 ?k3 ?a4 ?l4 ?c4 ?k4 ?a5 ?l5 ?c5 ?k5 ?a6 ?l6 ?c6 ?k6 ?a7 ?l7 ?c7 ?k7 ?a8 ?l8 ?c8 ?k8 ?a9 ?l9 ?c9 ?k9 ?a10 ?l10 ?c10 ?k10 ?a11 ?l11 ?c11 ?k11 ?a12 ?l12 ?c12 ?k12 ?a13 ?l13 ?c13 ?k13 ?a14 ?l14 ?c14 ?k14 ?a15 ?l15 ?c15 ?k15 ?a16 ?l16 ?c16 ?k16 ?a17 ?l17 ?c17 ?k17 ?a18 ?l18 ?c18 ?k18 ?a19 ?l19 ?c19 ?k19 ?a20 ?l20 ?c20 ?k20 ?a21 ?l21 ?c21 ?k21 ?a22 ?l22 ?c22 ?k22 ?a23 ?l23 ?c23 ?k23 ?a24 ?l24 ?c24 ?k24 ?a25 ?l25 ?c25 ?k25 ?a26 ?l26 ?c26 ?k26 ?xh ?xt ?xa0 ?xl0 ?xs0 ?xg0 ?xo0 ?xc0 ?xf0 ?xk0 ?xe0 ?xy0 ?xi0 ?xw0 ?xj0 ?xr0 ?xz0 ?xv0 ?gc0 ?gc1 ?gc2 ?z0 ?z1 ?z2 ?z3 ?z4 ?z5 ?z6 ?z7 ?z8 ?z9 ?z10 ?z11 ?z12 ?z13
    (case a0 => k_is); (case l0 => k_is); (case c0 => k_is); (case k0 => k_is); (case a1 => k_is); (case l1 => k_is); (case c1 => k_is); (case k1 => k_is); (case a2 => k_is); (case l2 => k_is); (case c2 => k_is); (case k2 => k_is); (case a3 => k_is); (case l3 => k_is); (case c3 => k_is); (case k3 => k_is); (case a4 => k_is); (case l4 => k_is); (case c4 => k_is); (case k4 => k_is); (case a5 => k_is); (case l5 => k_is); (case c5 => k_is); (case k5 => k_is); (case a6 => k_is); (case l6 => k_is); (case c6 => k_is); (case k6 => k_is); (case a7 => k_is); (case l7 => k_is); (case c7 => k_is); (case k7 => k_is); (case a8 => k_is); (case l8 => k_is); (case c8 => k_is); (case k8 => k_is); (case a9 => k_is); (case l9 => k_is); (case c9 => k_is); (case k9 => k_is); (case a10 => k_is); (case l10 => k_is); (case c10 => k_is); (case k10 => k_is); (case a11 => k_is); (case l11 => k_is); (case c11 => k_is); (case k11 => k_is); (case a12 => k_is); (case l12 => k_is); (case c12 => k_is); (case k12 => k_is); (case a13 => k_is); (case l13 => k_is); (case c13 => k_is); (case k13 => k_is); (case a14 => k_is); (case l14 => k_is); (case c14 => k_is); (case k14 => k_is); (case a15 => k_is); (case l15 => k_is); (case c15 => k_is); (case k15 => k_is); (case a16 => k_is); (case l16 => k_is); (case c16 => k_is); (case k16 => k_is); (case a17 => k_is); (case l17 => k_is); (case c17 => k_is); (case k17 => k_is); (case a18 => k_is); (case l18 => k_is); (case c18 => k_is); (case k18 => k_is); (case a19 => k_is); (case l19 => k_is); (case c19 => k_is); (case k19 => k_is); (case a20 => k_is); (case l20 => k_is); (case c20 => k_is); (case k20 => k_is); (case a21 => k_is); (case l21 => k_is); (case c21 => k_is); (case k21 => k_is); (case a22 => k_is); (case l22 => k_is); (case c22 => k_is); (case k22 => k_is); (case a23 => k_is); (case l23 => k_is); (case c23 => k_is); (case k23 => k_is); (case a24 => k_is); (case l24 => k_is); (case c24 => k_is); (case k24 => k_is); (case a25 => k_is); (case l25 => k_is); (case c25 => k_is); (case k25 => k_is); (case a26 => k_is); (case l26 => k_is); (case c26 => k_is); (case k26 => k_is); (case xh => k_is); (case xt => k_is); (case xa0 => k_is); (case xl0 => k_is); (case xs0 => k_is); (case xg0 => k_is); (case xo0 => k_is); (case xc0 => k_is); (case xf0 => k_is); (case xk0 => k_is); (case xe0 => k_is); (case xy0 => k_is); (case xi0 => k_is); (case xw0 => k_is); (case xj0 => k_is); (case xr0 => k_is); (case xz0 => k_is); (case xv0 => k_is); (case gc0 => k_is); (case gc1 => k_is); (case gc2 => k_is); (case z0 => k_is); (case z1 => k_is); (case z2 => k_is); (case z3 => k_is); (case z4 => k_is); (case z5 => k_is); (case z6 => k_is); (case z7 => k_is); (case z8 => k_is); (case z9 => k_is); (case z10 => k_is); (case z11 => k_is); (case z12 => k_is); (case z13 => k_is)
