import PyProof.Rows.All
import Wide.All
import OpenK.AllK
import Wide.FinOn
import HandS.ExcInit
import KE.KExcInit
import KE.KExcIs
import HandS.ForMost
import HandS.Wide
import HandS.Zip
import HandS.Style
import HandS.IsInst
import HandS.Walk
import HandS.TupAny
import HandS.Defaults
import KE.DataMinMax
import KE.GoesNew
import HandS.NoneIn
import HandS.Deep
import HandS.More
import HandS.TupMul
import HandS.Conv
import KE.KTupSum
import HandS.Text
import HandS.Iter
import HandS.RevRange
import KE.GoesMore
import PyProof.StrBlock2
import PyProof.Rows.StrJoinRep
import PyProof.Rows.StrCountLaw
import HandS.Star
import HandS.Dict
import HandS.SortKw
import PyProof.P3In
import HandS.Ends
import PySem.Challenge.RW_dunebooks_k78_whole_cores_counted_by_slo
set_option Elab.async false
set_option linter.all false
set_option maxRecDepth 100000
namespace PySem
namespace OEY
open PySem.W PySem.Calls PyProof.Rows PySem.HandSPX
open Builtin Builtin.ObjectAttr
/-- a built-in class of exceptions right over which own classes stand -/
structure Over (B newId initId : String) (tl : List Value) : Prop where
  facts : ExcBaseFacts B newId initId tl
  past : ∀ self, refuseLoop self "__setattr__" tl = pure ()
  obj : tl.contains (.type "object") = true
  kind : typeOf (.type B) = pure (.type "type")
  boot : bootBuiltins (Str.ofString B) = some (.type B)
  solid : Manifest.isStub B = false
  given : handedIn (.builtin initId) = true
theorem over_value : Over "ValueError" "ValueError.__new__" "ValueError.__init__" [.type "ValueError", .type "Exception", .type "BaseException", .type "object"] :=
  ⟨F.excBase_ValueError, F.store_ValueError.passes, by decide +kernel, by kernel_rfl, by decide +kernel, by decide +kernel, by decide +kernel⟩
theorem over_lookup : Over "LookupError" "LookupError.__new__" "LookupError.__init__" [.type "LookupError", .type "Exception", .type "BaseException", .type "object"] :=
  ⟨F.excBase_LookupError, F.store_LookupError.passes, by decide +kernel, by kernel_rfl, by decide +kernel, by decide +kernel, by decide +kernel⟩
theorem over_overflow : Over "OverflowError" "OverflowError.__new__" "OverflowError.__init__" [.type "OverflowError", .type "ArithmeticError", .type "Exception", .type "BaseException", .type "object"] :=
  ⟨F.excBase_OverflowError, F.store_OverflowError.passes, by decide +kernel, by kernel_rfl, by decide +kernel, by decide +kernel, by decide +kernel⟩
section
variable {prog : Program} {w : World} {A : Around} {R : Result → Shared → Prop} {hp : Heap} {g : Array GenState} {d : Drawn} {t : Nat} {os : OsState}
/-- the first field of an exception whose class stands right over tl -/
theorem first_field {K : W.Frag} {field : Str} {tk : Tok} {y : Value} {x C : Addr} {row : Array Value} {cd : ClassData} {tl : List Value} (KI : K.In hp) (there : hp.get? x = some { cls := .ref C, data := .fields row }) (hcd : W.clsIn K C = some cd)
    (past : ∀ self, refuseLoop self "__setattr__" tl = pure ()) (obj : tl.contains (.type "object") = true) (hm : cd.mro = .ref C :: tl) (hh : cd.hasDict = true) (ha : W.findIn K (.ref C) field = some none)
    (fin : ∀ h' tk' dx, (∀ b o, b ≠ x → hp.get? b = some o → h'.get? b = some o) → hp.objs.size ≤ dx → dx ≠ x → h'.get? x = some { cls := .ref C, dict := some dx, data := .fields row } →
      h'.Ns1 dx (fun z => if z = field then some y else none) → R (.ok (.ret .none)) ⟨h', g, d, tk', os⟩) :
    codeAny (model prog w) A (.call (.builtin "object.__setattr__") ⟨[.ref x, .str field tk, y], []⟩) R ⟨hp, g, d, t, os⟩ := by
  have J : W.InstAt hp x { cls := .ref C, data := .fields row } C none := ⟨there, rfl, rfl, trivial⟩
  have far : x ≠ hp.objs.size := Nat.ne_of_lt (Heap.lt_size there)
  have hob : cd.mro.contains (.type "object") = true := by rw [hm, List.contains_cons, obj, Bool.or_true]
  have hne : cd.mro.isEmpty = false := by rw [hm]; rfl
  have isO : W.Looks (model prog w) hp (isInstance (.ref x) (.type "object")) true := J.type.andThen (W.looks_mroIn KI (by unfold W.mroIn; rw [hcd, Option.bind_some, if_neg (by rw [hne]; decide), hob]))
  refine codeAny_call_builtin F.store_object.slot.plain F.store_object.entry (@W.check_slot (model prog w) _ _ ⟨hp, g, d, t, os⟩ "object.__setattr__" "object" "__setattr__" (.ref x) [.str field tk, y] [] _ F.store_object.kind F.store_object.split isO (F.store_object.args (.ref x) (.str field tk) y) ?_)
  have lm : W.Looks (model prog w) hp (mroOf (.ref C)) cd.mro := (W.looks_clsIn KI hcd).andThen .now
  have ls : W.Looks (model prog w) hp (storeTaker? none) none := .now
  have lc : W.Looks (model prog w) hp (classData C) cd := W.looks_clsIn KI hcd
  have go : refuseLoop (.ref x) "__setattr__" cd.mro = pure () := by rw [hm, refuseLoop_ref]; exact past _
  rw [W.osa_eq, refuse_eq]
  refine wpAny_bind (wpAny_bind (J.type.at (wpAny_bind (lm.at ?_))))
  rw [go]
  refine wpAny_pure (wpAny_bind (J.type.at (wpAny_bind ((W.looks_findIn KI ha).at (wpAny_bind (ls.at ?_))))))
  show wpAny _ _ (storeInOwnDict (.ref x) (.ref C) (.str field tk) field y false) _ _ _
  obtain ⟨nm, bs, mro, ns, qn, hd, sn, sb, ab, col, del⟩ := cd
  dsimp only at hh
  subst hh
  unfold storeInOwnDict ownDictForStores
  repeat (first | with_reducible refine store_in_new ?_ ?_ | with_reducible refine wpAny_loadPart_at there ?_ | with_reducible refine lc.at ?_ | wp_step)
  · exact ⟨_, #[], _, (Heap.get?_update_ne _ _ _ _ far.symm).trans (Heap.get?_push_at rfl rfl), rfl, fun e he => absurd he (by simp), fun _ => rfl⟩
  · intro h' tk' hn' hs
    have pushed : (hp.push { cls := .type "dict", data := .dict #[] }).get? x = some { cls := .ref C, data := .fields row } := Heap.get?_push_of_some _ there
    refine fin h' tk' hp.objs.size (fun b o hb ho => ?_) (Nat.le_refl _) far.symm ?_ hn'
    · exact (hs.2 b (Nat.ne_of_lt (Heap.lt_size ho))).trans ((Heap.get?_update_ne _ _ _ _ hb).trans (Heap.get?_push_of_some _ ho))
    · exact (hs.2 x far).trans (Heap.get?_update_self _ pushed rfl)
end
end OEY
end PySem
namespace L2
open PySem PySem.Spec PyProof.Rows
/-- what the written part says of an own exception class at C, right over B -/
structure OwnX (K : PySem.W.Frag) (C : Addr) (newId : String) (tl : List Value) : Prop where
  cls : ∃ nm q N bs sn sub ab col dd k0 k1 k2 k3 k5, K.lookup C = some (excClassObj nm q C N bs tl true sn sub ab col dd k0 k1 k2 k3 k5 newId)
  sa : PySem.W.findIn K (.ref C) "__setattr__" = some (some (.builtin "object.__setattr__"))
  exC : PySem.W.subIn K (.ref C) (.type "BaseException") = some true
  tyC : PySem.W.typeIn K (.ref C) = some (.type "type")
  kC : PySem.W.keepIn K (.ref C) = true
section
variable {X : Cx} {pins : List (Addr × Obj)} {σ : St} {H : Hp} {s : Shared} {a C dx : Addr} {f : Str} {y : V} {u : Value} {fs : List (Str × V)} {E : Value → Shared → Prop} {A : Around} {B newId initId : String} {tl : List Value}
/-- self.f = y, of an exception that is being made -/
theorem oy_store {Q : Unit → Shared → Prop} (O : PySem.OEY.Over B newId initId tl) (T : OwnX X.K C newId tl) (I : Inv X pins σ H s) (e : H a = some (exo a C none)) (hno : PySem.W.findIn X.K (.ref C) f = some none) (ry : RelV y u)
    (fin : ∀ dx s', H dx = none → dx ≠ a → Inv X pins σ (upd (upd H dx (exd dx [(f, y)])) a (exo a C (some dx))) s' → Q () s') : wpAny (model X.prog X.w) A (setAttr (.ref a) f u) Q E s := by
  obtain ⟨nm, q, N, bs, sn, sub, ab, col, dd, k0, k1, k2, k3, k5, hC⟩ := T.cls
  have known : PySem.W.clsIn X.K C = some { name := nm, bases := bs, mro := .ref C :: tl, ns := N, qualname := q, hasDict := true, slotNames := sn, subclasses := sub, abstract := ab, collection := col, hasDel := false } := by unfold PySem.W.clsIn; rw [hC] <;> rfl
  obtain ⟨t1, ho⟩ := exo_at I.hok e
  obtain ⟨hp, g, d, t, os⟩ := s
  refine PySem.W.set_plain I.kIn (ox := { cls := .ref C, dict := none, data := .fields #[.ref t1, .none, .none, .none, .bool false, .none] }) (od := none) ⟨ho, rfl, rfl, trivial⟩ T.sa ?_
  refine PySem.OEY.first_field I.kIn ho known O.past O.obj rfl rfl hno (fun h' tk' dx k dn dne hx hn => ?_)
  have free : H dx = none := I.hok.fresh dn
  have nd : ∀ {b : Addr} {o : Obj}, hp.get? b = some o → b ≠ dx := fun {b o} q => Nat.ne_of_lt (Nat.lt_of_lt_of_le (Heap.lt_size q) dn)
  have na : ∀ {b : Addr}, H b = none → b ≠ a := fun {b} n z => by rw [z, e] at n; cases n
  have Un1 : Un X.fs [] H (upd (upd H dx (exd dx [(f, y)])) a (exo a C (some dx))) hp h' := ⟨fun b o q n _ _ => k b o (na n) q, fun b o q n _ _ => ⟨o.slots, k b o (na n) q⟩, fun b o q n _ => by rw [upd_ne (na n), upd_ne (nd q)]; exact n, fun b o q _ => by
      by_cases hb : b = a
      · exact ⟨_, by rw [hb]; exact hx⟩
      · exact ⟨o, k b o hb q⟩, fun b xs q => by rw [upd_ne (at_ne e q exo_tup), upd_ne (ne_of_none q free)]; exact q, fun b o v q => by rw [upd_ne (at_ne e q exo_frz), upd_ne (ne_of_none q free)]; exact q,
      fun b ps q => ⟨#[], by rw [upd_ne (at_ne e q exo_tbl), upd_ne (ne_of_none q free), q]; simp⟩⟩
  refine fin dx _ free dne (I.un (t' := tk') Un1 fun b o q => ?_)
  by_cases hb : b = a
  · subst hb; rw [upd_same] at q; cases q; exact exo_ok hx
  · rw [upd_ne hb] at q
    by_cases hd : b = dx
    · subst hd; rw [upd_same] at q; cases q
      exact exd_ok hn (relO_put (fs := []) ry fun g => True.intro)
    · rw [upd_ne hd] at q
      refine (I.hok b o q).stay (fun c v hc z => k c v ?_ z) (fun c hc => ?_) fun c xs hc => ?_
      · rcases hc with hc | hc
        · rw [hc]; exact hb
        · exact at_ne e hc exo_own
      · rw [upd_ne (at_ne e hc exo_own), upd_ne (ne_of_none hc free)]; exact hc
      · rw [upd_ne (at_ne e hc exo_tup), upd_ne (ne_of_none hc free)]; exact hc
/-- B.__init__(self, ..) -/
theorem oy_init {us : List Value} {Q : Value → Shared → Prop} (O : PySem.OEY.Over B newId initId tl) (T : OwnX X.K C newId tl) (I : Inv X pins σ H s) (e : H a = some (exo a C none)) (hl : us.length ≤ sizeLine) (fin : ∀ s', Inv X pins σ H s' → Q .none s') :
    wpAny (model X.prog X.w) A (call (.builtin initId) (.ref a :: us)) Q E s := by
  obtain ⟨nm, q, N, bs, sn, sub, ab, col, dd, k0, k1, k2, k3, k5, hC⟩ := T.cls
  obtain ⟨t1, ho⟩ := exo_at I.hok e
  obtain ⟨hp, g, d, t, os⟩ := s
  refine wpAny_call (PySem.HandSPX.init_base O.facts (fun _ => rfl) (I.kIn _ _ hC) ho hl fun h' t2 k hx => ?_)
  have J := I.write (t' := t) (x := a) (e := a) (o := exo a C none) (by rw [e]; exact True.intro) (.inl rfl) k ⟨_, hx⟩ (exo_ok hx)
  have same : upd H a (exo a C none) = H := funext fun b => by
    by_cases hb : b = a
    · rw [hb, upd_same, e]
    · rw [upd_ne hb]
  rw [same] at J
  exact fin _ J
end
/-! ### readings and rules -/
/-- B.__init__(self, ..), of a class right over B -/
def tOyI (K : PySem.W.Frag) (newId : String) (tl : List Value) (ta : TA) : TE := fun σ H Q => ta σ H fun vs H1 => ∃ (a C : Addr) (ws : List V), vs = .ref a :: ws ∧ ws.length ≤ 1000 ∧ OwnX K C newId tl ∧ H1 a = some (exo a C none) ∧ Q .non H1
/-- self.f = e, the one field -/
def tOyS (K : PySem.W.Frag) (newId : String) (tl : List Value) (f : Str) (to te : TE) : TS := fun D σ H => te σ H fun y H1 => to σ H1 fun x H2 => ∃ a C : Addr, x = .ref a ∧ OwnX K C newId tl ∧ PySem.W.findIn K (.ref C) f = some none ∧
  H2 a = some (exo a C none) ∧ ∀ dx, H2 dx = none → dx ≠ a → D.nx σ (upd (upd H2 dx (exd dx [(f, y)])) a (exo a C (some dx)))
section
variable {X : Cx} {o e : Expr} {es : List Expr} {to te : TE} {ta : TA} {f : Str} {p p' p1 p2 pos : Pos} {B newId initId : String} {tl : List Value}
theorem pe_oyinit {pl : Sem Bool} (O : PySem.OEY.Over B newId initId tl) (hg : Gl X (Str.ofString B)) (hm : X.mg (Str.ofString B) = none) (vV : PySem.W.findCls X.K (.type B) (.type "type") "__init__" = some (.val (.builtin initId))) (ha : PA X (e :: es) ta)
    (hn : Str.ofString B ≠ "__name__" := by decide) (hdb : (Str.ofString B == ("__debug__" : Str)) = false := by decide)
    (hc : eval (.Call (.Attribute (.Name (Str.ofString B) p1) "__init__" p2) (e :: es) [] pos) X.env = (do
      let ov ← eval (.Name (Str.ofString B) p1) X.env
      standAt p2.atName
      let (f, first) ← holding [ov] (getMethod ov "__init__" pl)
      callWith pos f first (backTo pos (starEach (e :: es) X.env)) (backToKw pos (keywordEach [] X.env))) := by rfl)
    (he : starEach (e :: es) X.env = (false, eval e X.env) :: starEach es X.env := by rfl) (hpl : (backTo pos (starEach es X.env)).any (·.1) = false := by rfl) :
    PE X (.Call (.Attribute (.Name (Str.ofString B) p1) "__init__" p2) (e :: es) [] pos) (tOyI X.K newId tl ta) := by
  refine ⟨fun pins s σ H Q I h => PySem.W.methodCall_KW (ld_blt I hg hm O.boot ?_ hn hdb) hc⟩
  obtain ⟨m, fr⟩ := I.fr
  refine PySem.W.method_type fr I.ok.mod.kin O.kind O.solid vV O.given ?_
  show wpAny _ _ (callWith pos (Value.builtin initId) [] (backTo pos (starEach (e :: es) X.env)) []) _ _ _
  refine PyProof.Rows.callWith_method1 (thn (ha.run pos pins _ σ H _ (I.tok _) h) fun us s1 ⟨vs, H1, I1, r1, a, C, ws, ev, hl, T, ea, q⟩ => ?_) he hpl
  subst ev
  match us, r1 with
  | _ :: ur, .cons ra rw' =>
    cases ra
    exact oy_init O T I1 ea (by rw [← Paired.length rw', sizeLine_eq]; omega) fun s' J => ⟨.non, H1, J, rfl, q⟩
theorem ps_oyst (O : PySem.OEY.Over B newId initId tl) (ho : PE X o to) (he : PE X e te) (hs : swapsWith e (some (.Attribute o f p')) pos.line X.env = pure false := by rfl) : PS X (.Assign [.Attribute o f p'] e pos) (tOyS X.K newId tl f to te) :=
  ⟨fun pins s σ H D I h => plainObj_wpAny_Assign_Attribute (thn (he.run pins s σ H _ I h) fun v s1 ⟨y, H1, I1, r1, q1⟩ => thn (ho.run pins s1 σ H1 _ I1 q1) fun u s2 ⟨x, H2, I2, r2, a, C, ex, T, hno, ea, q⟩ => by
    subst ex
    cases r2
    exact oy_store O T I2 ea hno r1 fun dx s' n ne J => ⟨σ, _, J, q dx n ne⟩) hs⟩
/-- C(e, ..), C's __init__ keeping sp -/
theorem pmk_oy {CX : CXT} {x : Str} {C fI : Addr} {k : Nat} {fd : FuncData} {ps : List Str} {sp : Sp} {ds : List Value} {dvs : List V} (O : PySem.OEY.Over B newId initId tl) (T : OwnX X.K C newId tl) (iC : PySem.W.findIn X.K (.ref C) "__init__" = some (some (.ref fI))) (tI : PySem.W.typeIn X.K (.ref fI) = some (.type "function"))
    (F1 : FnOk X.prog X.w X.K X.mg X.base CX k fI fd ps sp) (hr : Room (k + 1) X.A) (hb : Binds X.K fd ps ds) (hd : Vals dvs ds) (hx : Passes CX X (fun _ _ _ => False)) (hg : Gl X x) (hm : X.mg x = some (.ref C)) (ha : PA X (e :: es) ta)
    (hdb : (x == ("__debug__" : Str)) = false := by decide) (he : starEach (e :: es) X.env = (false, eval e X.env) :: starEach es X.env := by rfl) (hpl : (backTo pos (starEach es X.env)).any (·.1) = false := by rfl) :
    PMk X (.Call (.Name x p) (e :: es) [] pos) (tMkO C sp dvs ta) := by
  intro pins s σ H Q I h
  obtain ⟨nm, q, N, bs, sn, sub, ab, col, dd, k0, k1, k2, k3, k5, hC⟩ := T.cls
  refine wpAny_Call_Name_kw (ld_glob I hg hm ?_ hdb)
  refine PySem.W.callWith_K (h₀ := X.base) I.ok.mod.kin T.kC (thn (ha.run pos pins s σ H _ I h) fun us s1 ⟨vs, H1, I1, r1, hz, q1⟩ => ⟨I1.kIn, ?_⟩) he hpl
  show wpAny _ _ (call (.ref C) us) _ _ _
  obtain ⟨hp, g, dr, tk, os⟩ := s1
  have up : hp.objs.size ≤ hp.objs.size + 1 := Nat.le_succ _
  have hn : H1 (hp.objs.size + 1) = none := I1.hok.fresh up
  have hq := q1 (hp.objs.size + 1) hn
  have kk : ∀ b o, hp.get? b = some o → ((hp.push (PySem.W.kdv_tup us)).push (PySem.HandSPX.excO C hp.objs.size)).get? b = some o := fun b o e => Heap.get?_push_of_some _ (Heap.get?_push_of_some _ e)
  have laid : ((hp.push (PySem.W.kdv_tup us)).push (PySem.HandSPX.excO C hp.objs.size)).get? (hp.objs.size + 1) = some (PySem.HandSPX.excO C hp.objs.size) := by heap_get
  have I2 : Inv X pins σ (upd H1 (hp.objs.size + 1) (exo (hp.objs.size + 1) C none)) ⟨(hp.push (PySem.W.kdv_tup us)).push (PySem.HandSPX.excO C hp.objs.size), g, dr, tk, os⟩ :=
    I1.laid (t' := tk) (a := hp.objs.size + 1) (o := exo (hp.objs.size + 1) C none) (h' := (hp.push (PySem.W.kdv_tup us)).push (PySem.HandSPX.excO C hp.objs.size)) kk up (exo_ok laid)
  have r2 : Vals (V.ref (hp.objs.size + 1) :: (vs ++ dvs)) (Value.ref (hp.objs.size + 1) :: (us ++ ds)) := .cons rfl (r1.append hd)
  have hl : (Value.ref (hp.objs.size + 1) :: us ++ ds).length = ps.length := r2.length.symm.trans (F1.len _ _ _ _ hq)
  have hus : us.length ≤ sizeLine := by rw [← Paired.length r1, sizeLine_eq]; omega
  refine wpAny_call (PySem.HandSPX.call_own O.facts (fun _ => rfl) (I1.kIn _ _ hC) (PySem.W.looks_findIn I1.kIn iC) (fun self => PySem.W.bind_fn I1.kIn self tI) hus
    (codeAny_mono (F1.run _ X.stack _ _ ⟨Value.ref (hp.objs.size + 1) :: us, []⟩ (Value.ref (hp.objs.size + 1) :: (us ++ ds)) _ _ (fun _ _ _ => False) (hr.make C us []) (I2.env0.make C us []) (hb _ (Value.ref (hp.objs.size + 1) :: us) I2.kIn hl) r2 hq) fun r s' hq' => ?_))
  match r, hq' with
  | .error er, hq' => exact hx pins σ _ _ er s' I2 hq'
  | .ok (.ret u), hq' =>
    obtain ⟨v, H2, os2, bare2, un2, hok2, rv, ev, d, fs, ea, ed, hd1, q2⟩ := hq'
    subst ev
    obtain ⟨h2, g2, d2, t2, os'⟩ := s'
    exact ⟨rv, mk_end (raises_own T.exC T.tyC) I1 up kk un2 hok2 os2 bare2 ea ed hd1 q2⟩
  | .ok .next, hq' => exact hq'.elim
  | .ok .brk, hq' => exact hq'.elim
  | .ok .cont, hq' => exact hq'.elim
end
end L2
namespace L2
open PySem PySem.Spec PyProof.Rows
/-- at a: an exception of the class at C that was caught, its own dict at dd -/
def exk (a C dd : Addr) : HO := .ext fun h => ∃ (oe : Obj) (vs : Array Value), h.get? a = some oe ∧ oe.cls = .ref C ∧ oe.dict = some dd ∧ oe.data = .fields vs
/-- the one field of each own class of exceptions -/
def xfield (c : Str) : Str :=
  if c = "Clash" then "places" else if c = "Against" then "place" else if c = "Astray" then "number" else if c = "BadText" then "at" else if c = "BadRow" then "row" else
  if c = "NoPost" then "post" else if c = "NoOrder" then "number" else if c = "NoCore" then "core" else "many"
/-- what it stands right over -/
inductive XB where
  | v | l | o
def xb (c : Str) : XB := if c ∈ (["Clash", "Against", "Unlike", "Astray", "BadText", "BadRow"] : List Str) then .v else if c = "TooMany" then .o else .l
def XB.tl : XB → List String
  | .v => ["ValueError", "Exception", "BaseException", "object"]
  | .l => ["LookupError", "Exception", "BaseException", "object"]
  | .o => ["OverflowError", "ArithmeticError", "Exception", "BaseException", "object"]
def XB.nm : XB → String
  | .v => "ValueError"
  | .l => "LookupError"
  | .o => "OverflowError"
def XB.new : XB → String
  | .v => "ValueError.__new__"
  | .l => "LookupError.__new__"
  | .o => "OverflowError.__new__"
def XB.ini : XB → String
  | .v => "ValueError.__init__"
  | .l => "LookupError.__init__"
  | .o => "OverflowError.__init__"
theorem XB.over (b : XB) : PySem.OEY.Over b.nm b.new b.ini (b.tl.map Value.type) := by
  cases b
  · exact PySem.OEY.over_value
  · exact PySem.OEY.over_lookup
  · exact PySem.OEY.over_overflow
end L2
namespace Pl
open PySem PySem.Spec PyProof.Rows L2
/-! ### data -/
inductive D where
  | non | bl (b : Bool) | int (i : Int) | str (x : Str) | lst (xs : List D) | tup (xs : List D) | scr (ns : List Int) | adr (a : Addr) | exc (c : Str) (y : D)
mutual
inductive Rep (K : PySem.W.Frag) (F : Hp) : V → D → Prop
  | non : Rep K F .non .non
  | bl (b : Bool) : Rep K F (.bl b) (.bl b)
  | int (i : Int) : Rep K F (.int i) (.int i)
  | str (x : Str) : Rep K F (.str x) (.str x)
  | lst {a : Addr} {vs : List V} {ds : List D} : F a = some (.lst vs) → Reps K F vs ds → Rep K F (.ref a) (.lst ds)
  | tup {a : Addr} {vs : List V} {ds : List D} : F a = some (.tup vs) → Reps K F vs ds → Rep K F (.ref a) (.tup ds)
  | scr {a : Addr} {ns : List Int} : SqL K F a (ns.map V.int) → Rep K F (.ref a) (.scr ns)
  | adr (a : Addr) : Rep K F (.ref a) (.adr a)
  | exc {a C dd : Addr} {v : V} {c : Str} {y : D} : PySem.W.nsIn K mainGlobals c = some (some (.ref C)) → F a = some (exk a C dd) → F dd = some (.xd [(xfield c, v)]) → Rep K F v y → Rep K F (.ref a) (.exc c y)
inductive Reps (K : PySem.W.Frag) (F : Hp) : List V → List D → Prop
  | nil : Reps K F [] []
  | cons {v : V} {vs : List V} {d : D} {ds : List D} : Rep K F v d → Reps K F vs ds → Reps K F (v :: vs) (d :: ds)
end
section
variable {K : PySem.W.Frag} {F F' : Hp}
mutual
theorem Rep.mono (e : Same F F') : ∀ {v : V} {d : D}, Rep K F v d → Rep K F' v d
  | _, _, .non => .non
  | _, _, .bl b => .bl b
  | _, _, .int i => .int i
  | _, _, .str x => .str x
  | _, _, .lst h r => .lst (e _ _ h) (Reps.mono e r)
  | _, _, .tup h r => .tup (e _ _ h) (Reps.mono e r)
  | _, _, .scr h => .scr (e.seq h)
  | _, _, .adr a => .adr a
  | _, _, .exc h1 h2 h3 r => .exc h1 (e _ _ h2) (e _ _ h3) (Rep.mono e r)
theorem Reps.mono (e : Same F F') : ∀ {vs : List V} {ds : List D}, Reps K F vs ds → Reps K F' vs ds
  | _, _, .nil => .nil
  | _, _, .cons h r => .cons (Rep.mono e h) (Reps.mono e r)
end
theorem Reps.length : ∀ {vs : List V} {ds : List D}, Reps K F vs ds → vs.length = ds.length
  | _, _, .nil => rfl
  | _, _, .cons _ r => by simp [Reps.length r]
theorem Reps.get : ∀ {vs : List V} {ds : List D} {i : Nat} {d : D}, Reps K F vs ds → ds[i]? = some d → ∃ v, vs[i]? = some v ∧ Rep K F v d
  | _, _, _, _, .nil, e => by simp at e
  | _, _, 0, _, .cons r _, e => by simp at e; subst e; exact ⟨_, rfl, r⟩
  | _, _, i + 1, d, .cons _ t, e => by
    obtain ⟨u, h1, h2⟩ := Reps.get (i := i) (d := d) t (by simpa using e)
    exact ⟨u, by simpa using h1, h2⟩
theorem Reps.getV : ∀ {vs : List V} {ds : List D} {i : Nat} {v : V}, Reps K F vs ds → vs[i]? = some v → ∃ d, ds[i]? = some d ∧ Rep K F v d
  | _, _, _, _, .nil, e => by simp at e
  | _, _, 0, _, .cons r _, e => by simp at e; subst e; exact ⟨_, rfl, r⟩
  | _, _, i + 1, d, .cons _ t, e => by
    obtain ⟨u, h1, h2⟩ := Reps.getV (i := i) (v := d) t (by simpa using e)
    exact ⟨u, by simpa using h1, h2⟩
theorem Reps.append : ∀ {vs ws : List V} {ds es : List D}, Reps K F vs ds → Reps K F ws es → Reps K F (vs ++ ws) (ds ++ es)
  | _, _, _, _, .nil, s => s
  | _, _, _, _, .cons r t, s => .cons r (Reps.append t s)
theorem Reps.one {v : V} {d : D} (h : Rep K F v d) : Reps K F [v] [d] := .cons h .nil
theorem Reps.set {v : V} {d : D} (r : Rep K F v d) : ∀ {vs : List V} {ds : List D} (i : Nat), Reps K F vs ds → Reps K F (vs.set i v) (ds.set i d)
  | _, _, _, .nil => .nil
  | _, _, 0, .cons _ t => .cons r t
  | _, _, i + 1, .cons q t => .cons q (Reps.set r i t)
theorem Reps.drop : ∀ {vs : List V} {ds : List D} (n : Nat), Reps K F vs ds → Reps K F (vs.drop n) (ds.drop n)
  | _, _, 0, h => h
  | _, _, _ + 1, .nil => .nil
  | _, _, n + 1, .cons _ t => Reps.drop n t
theorem Reps.take : ∀ {vs : List V} {ds : List D} (n : Nat), Reps K F vs ds → Reps K F (vs.take n) (ds.take n)
  | _, _, 0, _ => .nil
  | _, _, _ + 1, .nil => .nil
  | _, _, n + 1, .cons r t => .cons r (Reps.take n t)
theorem Reps.reverse : ∀ {vs : List V} {ds : List D}, Reps K F vs ds → Reps K F vs.reverse ds.reverse
  | _, _, .nil => .nil
  | _, _, .cons r t => by
    rw [List.reverse_cons, List.reverse_cons]
    exact (Reps.reverse t).append (.one r)
theorem Reps.ints : ∀ {vs : List V} {ns : List Int}, Reps K F vs (ns.map D.int) → vs = ns.map V.int
  | _, [], .nil => rfl
  | _, n :: ns, .cons h t => by cases h; rw [Reps.ints t]; rfl
theorem Reps.ofInts : ∀ (ns : List Int), Reps K F (ns.map V.int) (ns.map D.int)
  | [] => .nil
  | n :: ns => .cons (.int n) (Reps.ofInts ns)
theorem Reps.bls : ∀ {vs : List V} {bs : List Bool}, Reps K F vs (bs.map D.bl) → vs = bs.map V.bl
  | _, [], .nil => rfl
  | _, n :: ns, .cons h t => by cases h; rw [Reps.bls t]; rfl
end
/-! ### slots -/
inductive Cell where
  | val (d : D) | own (a : Addr) (xs : List D)
abbrev Ro := List (Option Cell)
structure Up (G F F' : Hp) : Prop where
  ex : Same F F'
  out : ∀ a o, F' a = some o → F a = some o ∨ G a = none
theorem Up.refl (G F : Hp) : Up G F F := ⟨.refl F, fun _ _ h => .inl h⟩
theorem Up.trans {G F F1 F2 : Hp} (a : Up G F F1) (b : Up G F1 F2) : Up G F F2 := ⟨a.ex.trans b.ex, fun x o h => by
  rcases b.out x o h with h | h
  · exact a.out x o h
  · exact .inr h⟩
theorem Up.isNone {G F F' : Hp} (u : Up G F F') {a : Addr} {o : HO} (hF : F a = none) (hG : G a = some o) : F' a = none := by
  cases q : F' a with
  | none => rfl
  | some x =>
    rcases u.out a x q with h | h
    · rw [hF] at h; cases h
    · rw [hG] at h; cases h
/-- a smaller frame -/
theorem Up.less {G G' F F' : Hp} (u : Up G F F') (h : Same G' G) : Up G' F F' := ⟨u.ex, fun a o e => by
  rcases u.out a o e with q | q
  · exact .inl q
  · exact .inr (h.free q)⟩
/-! what is kept beside the frame G (nothing; or: a table of code objects, see P43) -/
class TJ where
  J : Hp → Hp → Hp → Prop
  step : ∀ {G F F' H H' : Hp}, J G F H → (∀ b o, H b = some o → (∀ vs, o ≠ .lst vs) → H' b = some o) → (∀ b o, F' b = some o → F b = some o ∨ H b = none ∨ ∃ vs, H b = some (.lst vs)) → J G F' H'
  frame : ∀ {G G' F H : Hp}, J G F H → (∀ b o, G' b = some o → G b = some o ∨ ∃ vs, H b = some (.lst vs)) → J G' F H
@[reducible] def tj0 : TJ := ⟨fun _ _ _ => True, fun _ _ _ => trivial, fun _ _ => trivial⟩
@[reducible] instance (priority := low) tjNone : TJ := tj0
structure SameJ [TJ] (G F H : Hp) : Prop where
  same : Same G H
  tj : TJ.J G F H
section
variable [TJ] {G G' F F' H H' : Hp}
instance : CoeFun (SameJ G F H) (fun _ => ∀ a x, G a = some x → H a = some x) := ⟨fun h => h.same⟩
instance : CoeOut (SameJ G F H) (Same G H) := ⟨fun h => h.same⟩
theorem SameJ.step (h : SameJ G F H) (e : Same H H') (f : ∀ b o, F' b = some o → F b = some o ∨ H b = none ∨ ∃ vs, H b = some (.lst vs)) : SameJ G F' H' := ⟨h.same.trans e, TJ.step h.tj (fun b o q _ => e b o q) f⟩
theorem SameJ.trans (h : SameJ G F H) (e : Same H H') : SameJ G F H' := h.step e fun _ _ q => .inl q
theorem SameJ.up (h : SameJ G F H) (e : Same H H') (u : ∀ b o, F' b = some o → F b = some o ∨ H b = none) : SameJ G F' H' := h.step e fun b o q => (u b o q).elim .inl fun z => .inr (.inl z)
theorem SameJ.new (h : SameJ G F H) {p : Addr} {o : HO} (n : H p = none) : SameJ G (upd F p o) (upd H p o) := h.up (fun b x q => by rw [upd_ne (ne_of_none q n)]; exact q) fun b x q => by
  by_cases m : b = p
  · subst m; exact .inr n
  · rw [upd_ne m] at q; exact .inl q
theorem SameJ.froz (h : SameJ G F H) (f : ∀ b o, F' b = some o → F b = some o ∨ ∃ vs, H b = some (.lst vs)) : SameJ G F' H := h.step (.refl _) fun b o q => (f b o q).elim .inl fun z => .inr (.inr z)
theorem SameJ.free (h : SameJ G F H) {a : Addr} (n : H a = none) : G a = none := h.same.free n
theorem SameJ.less (h : SameJ G F H) (e : Same G' G) : SameJ G' F H := ⟨e.trans h.same, TJ.frame h.tj fun b o q => .inl (e b o q)⟩
theorem SameJ.mut (h : SameJ G F H) {a : Addr} {vs ws : List V} (n : G a = none) (e : H a = some (.lst vs)) : SameJ G F (upd H a (.lst ws)) :=
  ⟨fun b x q => by
    have m : b ≠ a := fun z => by subst z; rw [n] at q; cases q
    rw [upd_ne m]; exact h.same b x q, TJ.step h.tj (fun b o q ne => by
    have m : b ≠ a := fun z => by subst z; rw [e] at q; exact ne vs (Option.some.inj q).symm
    rw [upd_ne m]; exact q) fun _ _ q => .inl q⟩
theorem SameJ.guard (h : SameJ G F H) {a : Addr} {vs : List V} (e : H a = some (.lst vs)) : SameJ (upd G a (.lst vs)) F H :=
  ⟨fun b x q => by
    by_cases m : b = a
    · subst m; rw [upd_same] at q; cases q; exact e
    · rw [upd_ne m] at q; exact h.same b x q, TJ.frame h.tj fun b o q => by
    by_cases m : b = a
    · subst m; exact .inr ⟨vs, e⟩
    · rw [upd_ne m] at q; exact .inl q⟩
end
structure Sim [TJ] (K : PySem.W.Frag) (G F H : Hp) (σ : L2.St) (ρ : Ro) : Prop where
  hF : Same F H
  hG : SameJ G F H
  len : σ.length = ρ.length
  val : ∀ (i : Nat) (d : D), ρ[i]? = some (some (.val d)) → ∃ v, σ[i]? = some (some v) ∧ Rep K F v d
  own : ∀ (i : Nat) (a : Addr) (xs : List D), ρ[i]? = some (some (.own a xs)) → σ[i]? = some (some (.ref a)) ∧ F a = none ∧ G a = none ∧ ∃ vs, H a = some (.lst vs) ∧ Reps K F vs xs
  ne : ∀ (i j : Nat) (a : Addr) (xs ys : List D), ρ[i]? = some (some (.own a xs)) → ρ[j]? = some (some (.own a ys)) → i = j
/-- .. nothing kept beside the frame -/
structure SimR (K : PySem.W.Frag) (G F H : Hp) (σ : L2.St) (ρ : Ro) : Prop where
  hF : Same F H
  hG : Same G H
  len : σ.length = ρ.length
  val : ∀ (i : Nat) (d : D), ρ[i]? = some (some (.val d)) → ∃ v, σ[i]? = some (some v) ∧ Rep K F v d
  own : ∀ (i : Nat) (a : Addr) (xs : List D), ρ[i]? = some (some (.own a xs)) → σ[i]? = some (some (.ref a)) ∧ F a = none ∧ G a = none ∧ ∃ vs, H a = some (.lst vs) ∧ Reps K F vs xs
  ne : ∀ (i j : Nat) (a : Addr) (xs ys : List D), ρ[i]? = some (some (.own a xs)) → ρ[j]? = some (some (.own a ys)) → i = j
theorem Sim.raw [TJ] {K : PySem.W.Frag} {G F H : Hp} {σ : L2.St} {ρ : Ro} (S : Sim K G F H σ ρ) : SimR K G F H σ ρ := ⟨S.hF, S.hG.same, S.len, S.val, S.own, S.ne⟩
theorem SimR.sim {K : PySem.W.Frag} {G F H : Hp} {σ : L2.St} {ρ : Ro} (S : SimR K G F H σ ρ) : Sim K G F H σ ρ := ⟨S.hF, ⟨S.hG, trivial⟩, S.len, S.val, S.own, S.ne⟩
theorem SameJ.rfl' (F H : Hp) : SameJ H F H := ⟨.refl H, trivial⟩
theorem SameJ.of {G F H : Hp} (h : Same G H) : SameJ G F H := ⟨h, trivial⟩
section
variable [TJ] {K : PySem.W.Frag} {G F H : Hp} {σ : L2.St} {ρ : Ro}
theorem Sim.freshF (S : Sim K G F H σ ρ) {p : Addr} (h : H p = none) : F p = none := S.hF.free h
theorem Sim.freshG (S : Sim K G F H σ ρ) {p : Addr} (h : H p = none) : G p = none := S.hG.free h
theorem same_new {H : Hp} {p : Addr} {o : HO} (h : H p = none) : Same H (upd H p o) := fun b x e => by
  rw [upd_ne (ne_of_none e h)]
  exact e
theorem Up.new {p : Addr} {o : HO} (hF : F p = none) (hG : G p = none) : Up G F (upd F p o) := ⟨same_new hF, fun a x e => by
  by_cases q : a = p
  · subst q; exact .inr hG
  · rw [upd_ne q] at e; exact .inl e⟩
/-- a new frozen object -/
theorem Sim.new (S : Sim K G F H σ ρ) {p : Addr} {o : HO} (h : H p = none) : Sim K G (upd F p o) (upd H p o) σ ρ where
  hF := fun a x e => by
    by_cases q : a = p
    · subst q; rw [upd_same] at e ⊢; exact e
    · rw [upd_ne q] at e ⊢; exact S.hF a x e
  hG := S.hG.new h
  len := S.len
  val := fun i d e => by
    obtain ⟨v, h1, h2⟩ := S.val i d e
    exact ⟨v, h1, h2.mono (same_new (S.freshF h))⟩
  own := fun i a xs e => by
    obtain ⟨h1, h2, h3, vs, h4, h5⟩ := S.own i a xs e
    have q : a ≠ p := ne_of_none h4 h
    exact ⟨h1, by rw [upd_ne q]; exact h2, h3, vs, by rw [upd_ne q]; exact h4, h5.mono (same_new (S.freshF h))⟩
  ne := S.ne
theorem Sim.upNew (S : Sim K G F H σ ρ) {p : Addr} {o : HO} (h : H p = none) : Up G F (upd F p o) := Up.new (S.freshF h) (S.freshG h)
/-- a new object that is not frozen -/
theorem Sim.more (S : Sim K G F H σ ρ) {p : Addr} {o : HO} (h : H p = none) : Sim K G F (upd H p o) σ ρ where
  hF := S.hF.trans (same_new h)
  hG := S.hG.trans (same_new h)
  len := S.len
  val := S.val
  own := fun i a xs e => by
    obtain ⟨h1, h2, h3, vs, h4, h5⟩ := S.own i a xs e
    exact ⟨h1, h2, h3, vs, by rw [upd_ne (ne_of_none h4 h)]; exact h4, h5⟩
  ne := S.ne
/-- an own list is changed -/
theorem Sim.mut (S : Sim K G F H σ ρ) {i : Nat} {a : Addr} {xs ys : List D} {vs : List V} (e : ρ[i]? = some (some (.own a xs))) (r : Reps K F vs ys) :
    Sim K G F (upd H a (.lst vs)) σ (ρ.set i (some (.own a ys))) := by
  obtain ⟨h1, h2, h3, ws, h4, h5⟩ := S.own i a xs e
  have hi : i < ρ.length := by
    rcases Nat.lt_or_ge i ρ.length with h | h
    · exact h
    · rw [List.getElem?_eq_none h] at e; cases e
  refine ⟨fun b x q => ?_, S.hG.mut h3 h4, by simpa using S.len, fun j d q => ?_, fun j b zs q => ?_, fun j k b zs ws q1 q2 => ?_⟩
  · have n : b ≠ a := fun z => by subst z; rw [h2] at q; cases q
    rw [upd_ne n]; exact S.hF b x q
  · by_cases hj : i = j
    · subst hj; rw [List.getElem?_set_self hi] at q; cases q
    · rw [List.getElem?_set_ne hj] at q; exact S.val j d q
  · by_cases hj : i = j
    · subst hj
      rw [List.getElem?_set_self hi] at q
      cases q
      exact ⟨h1, h2, h3, vs, upd_same, r⟩
    · rw [List.getElem?_set_ne hj] at q
      obtain ⟨g1, g2, g3, us, g4, g5⟩ := S.own j b zs q
      have n : b ≠ a := fun z => by subst z; exact hj (S.ne _ _ _ _ _ e q)
      exact ⟨g1, g2, g3, us, by rw [upd_ne n]; exact g4, g5⟩
  · by_cases hj : i = j
    · subst hj
      by_cases hk : i = k
      · exact hk
      · rw [List.getElem?_set_self hi] at q1
        rw [List.getElem?_set_ne hk] at q2
        cases q1
        exact absurd (S.ne _ _ _ _ _ e q2) hk
    · by_cases hk : i = k
      · subst hk
        rw [List.getElem?_set_self hi] at q2
        rw [List.getElem?_set_ne hj] at q1
        cases q2
        exact absurd (S.ne _ _ _ _ _ e q1) hj
      · rw [List.getElem?_set_ne hj] at q1
        rw [List.getElem?_set_ne hk] at q2
        exact S.ne _ _ _ _ _ q1 q2
/-- a slot is stored -/
theorem Sim.setVal (S : Sim K G F H σ ρ) (i : Nat) {v : V} {d : D} (r : Rep K F v d) : Sim K G F H (σ.set i (some v)) (ρ.set i (some (.val d))) := by
  refine ⟨S.hF, S.hG, by simpa using S.len, fun j d' q => ?_, fun j b zs q => ?_, fun j k b zs ws q1 q2 => ?_⟩
  · by_cases hj : i = j
    · subst hj
      by_cases hi : i < ρ.length
      · rw [List.getElem?_set_self hi] at q
        cases q
        exact ⟨v, List.getElem?_set_self (by rw [S.len]; exact hi), r⟩
      · rw [List.getElem?_eq_none (by simpa using hi)] at q; cases q
    · rw [List.getElem?_set_ne hj] at q ⊢; exact S.val j d' q
  · by_cases hj : i = j
    · subst hj
      by_cases hi : i < ρ.length
      · rw [List.getElem?_set_self hi] at q; cases q
      · rw [List.getElem?_eq_none (by simpa using hi)] at q; cases q
    · rw [List.getElem?_set_ne hj] at q ⊢; exact S.own j b zs q
  · have n : ∀ (j : Nat) (zs : List D), (ρ.set i (some (.val d)))[j]? = some (some (.own b zs)) → ρ[j]? = some (some (.own b zs)) := fun j zs q => by
      by_cases hj : i = j
      · subst hj
        by_cases hi : i < ρ.length
        · rw [List.getElem?_set_self hi] at q; cases q
        · rw [List.getElem?_eq_none (by simpa using hi)] at q; cases q
      · rw [List.getElem?_set_ne hj] at q; exact q
    exact S.ne _ _ _ _ _ (n _ _ q1) (n _ _ q2)
/-- no slot has it -/
def NotOwn (ρ : Ro) (a : Addr) : Prop := ∀ (i : Nat) (xs : List D), ρ[i]? ≠ some (some (.own a xs))
theorem Sim.notOwn (S : Sim K G F H σ ρ) {a : Addr} (h : H a = none) : NotOwn ρ a := fun i xs q => by
  obtain ⟨_, _, _, vs, h4, _⟩ := S.own i a xs q
  rw [h] at h4; cases h4
theorem Sim.setOwn (S : Sim K G F H σ ρ) (i : Nat) {a : Addr} {vs : List V} {xs : List D} (hH : H a = some (.lst vs)) (hF : F a = none) (hG : G a = none) (hn : NotOwn ρ a) (r : Reps K F vs xs) :
    Sim K G F H (σ.set i (some (.ref a))) (ρ.set i (some (.own a xs))) := by
  have far : ∀ (j : Nat) (c : Cell), i ≠ j → (ρ.set i (some (.own a xs)))[j]? = some (some c) → ρ[j]? = some (some c) := fun j c hj q => by
    rw [List.getElem?_set_ne hj] at q; exact q
  have near : ∀ (c : Cell), (ρ.set i (some (.own a xs)))[i]? = some (some c) → c = .own a xs ∧ i < ρ.length := fun c q => by
    by_cases hi : i < ρ.length
    · rw [List.getElem?_set_self hi] at q; cases q; exact ⟨rfl, hi⟩
    · rw [List.getElem?_eq_none (by simpa using hi)] at q; cases q
  refine ⟨S.hF, S.hG, by simpa using S.len, fun j d' q => ?_, fun j b zs q => ?_, fun j k b zs ws q1 q2 => ?_⟩
  · by_cases hj : i = j
    · subst hj; exact nomatch (near _ q).1
    · obtain ⟨v, h1, h2⟩ := S.val j d' (far _ _ hj q)
      exact ⟨v, by rw [List.getElem?_set_ne hj]; exact h1, h2⟩
  · by_cases hj : i = j
    · subst hj
      obtain ⟨e, hi⟩ := near _ q
      cases e
      exact ⟨List.getElem?_set_self (by rw [S.len]; exact hi), hF, hG, vs, hH, r⟩
    · obtain ⟨h1, h2⟩ := S.own j b zs (far _ _ hj q)
      exact ⟨by rw [List.getElem?_set_ne hj]; exact h1, h2⟩
  · by_cases hj : i = j
    · subst hj
      by_cases hk : i = k
      · exact hk
      · have e := (near _ q1).1
        cases e
        exact absurd (far _ _ hk q2) (hn _ _)
    · by_cases hk : i = k
      · subst hk
        have e := (near _ q2).1
        cases e
        exact absurd (far _ _ hj q1) (hn _ _)
      · exact S.ne _ _ _ _ _ (far _ _ hj q1) (far _ _ hk q2)
/-- a slot is forgotten (whatever it holds) -/
theorem Sim.forget (S : Sim K G F H σ ρ) (i : Nat) (x : Option V) : Sim K G F H (σ.set i x) (ρ.set i none) := by
  have far : ∀ (j : Nat) (c : Cell), (ρ.set i none)[j]? = some (some c) → ρ[j]? = some (some c) ∧ i ≠ j := fun j c q => by
    by_cases hj : i = j
    · subst hj
      by_cases hi : i < ρ.length
      · rw [List.getElem?_set_self hi] at q; cases q
      · rw [List.getElem?_eq_none (by simpa using hi)] at q; cases q
    · rw [List.getElem?_set_ne hj] at q; exact ⟨q, hj⟩
  refine ⟨S.hF, S.hG, by simpa using S.len, fun j d' q => ?_, fun j b zs q => ?_, fun j k b zs ws q1 q2 => S.ne _ _ _ _ _ (far _ _ q1).1 (far _ _ q2).1⟩
  · obtain ⟨q1, hj⟩ := far _ _ q
    rw [List.getElem?_set_ne hj]
    exact S.val j d' q1
  · obtain ⟨q1, hj⟩ := far _ _ q
    rw [List.getElem?_set_ne hj]
    exact S.own j b zs q1
theorem Sim.forget' (S : Sim K G F H σ ρ) (i : Nat) : Sim K G F H σ (ρ.set i none) := by
  have far : ∀ (j : Nat) (c : Cell), (ρ.set i none)[j]? = some (some c) → ρ[j]? = some (some c) := fun j c q => by
    by_cases hj : i = j
    · subst hj
      by_cases hi : i < ρ.length
      · rw [List.getElem?_set_self hi] at q; cases q
      · rw [List.getElem?_eq_none (by simpa using hi)] at q; cases q
    · rw [List.getElem?_set_ne hj] at q; exact q
  exact ⟨S.hF, S.hG, by simpa using S.len, fun j d' q => S.val j d' (far _ _ q), fun j b zs q => S.own j b zs (far _ _ q), fun j k b zs ws q1 q2 => S.ne _ _ _ _ _ (far _ _ q1) (far _ _ q2)⟩
/-- an own list is frozen -/
theorem Sim.freeze (S : Sim K G F H σ ρ) {i : Nat} {a : Addr} {xs : List D} (e : ρ[i]? = some (some (.own a xs))) :
    ∃ F', Up G F F' ∧ Rep K F' (.ref a) (.lst xs) ∧ Sim K G F' H σ (ρ.set i (some (.val (.lst xs)))) := by
  obtain ⟨h1, h2, h3, vs, h4, h5⟩ := S.own i a xs e
  have hi : i < ρ.length := by
    rcases Nat.lt_or_ge i ρ.length with h | h
    · exact h
    · rw [List.getElem?_eq_none h] at e; cases e
  have sm : Same F (upd F a (.lst vs)) := same_new h2
  have rp : Rep K (upd F a (.lst vs)) (.ref a) (.lst xs) := .lst upd_same (h5.mono sm)
  refine ⟨upd F a (.lst vs), Up.new h2 h3, rp, fun b x q => ?_, S.hG.froz fun b x q => ?_, by simpa using S.len, fun j d q => ?_, fun j b zs q => ?_, fun j k b zs ws q1 q2 => ?_⟩
  · by_cases n : b = a
    · subst n; rw [upd_same] at q; cases q; exact h4
    · rw [upd_ne n] at q; exact S.hF b x q
  · by_cases n : b = a
    · subst n; exact .inr ⟨vs, h4⟩
    · rw [upd_ne n] at q; exact .inl q
  · by_cases hj : i = j
    · subst hj
      rw [List.getElem?_set_self hi] at q
      cases q
      exact ⟨_, h1, rp⟩
    · rw [List.getElem?_set_ne hj] at q
      obtain ⟨v, g1, g2⟩ := S.val j d q
      exact ⟨v, g1, g2.mono sm⟩
  · by_cases hj : i = j
    · subst hj
      rw [List.getElem?_set_self hi] at q; cases q
    · rw [List.getElem?_set_ne hj] at q
      obtain ⟨g1, g2, g3, us, g4, g5⟩ := S.own j b zs q
      have n : b ≠ a := fun z => by subst z; exact hj (S.ne _ _ _ _ _ e q)
      exact ⟨g1, by rw [upd_ne n]; exact g2, g3, us, g4, g5.mono sm⟩
  · have n : ∀ (j : Nat) (zs : List D), (ρ.set i (some (.val (.lst xs))))[j]? = some (some (.own b zs)) → ρ[j]? = some (some (.own b zs)) := fun j zs q => by
      by_cases hj : i = j
      · subst hj; rw [List.getElem?_set_self hi] at q; cases q
      · rw [List.getElem?_set_ne hj] at q; exact q
    exact S.ne _ _ _ _ _ (n _ _ q1) (n _ _ q2)
end
end Pl
namespace Pl
open PySem PySem.Spec PyProof.Rows L2
variable [TJ]
/-! ### readings without a heap -/
abbrev TEp := Ro → (D → Ro → Prop) → Prop
abbrev TCp := Ro → (Cell → Ro → Prop) → Prop
abbrev TTp := Ro → (Bool → Ro → Prop) → Prop
abbrev TAp := Ro → (List D → Ro → Prop) → Prop
def SndE (K : PySem.W.Frag) (t : TE) (T : TEp) : Prop := ∀ (G F H : Hp) (σ : L2.St) (ρ : Ro) (Q : D → Ro → Prop) (R : VK), Sim K G F H σ ρ → T ρ Q →
  (∀ v d F' H' ρ', Up G F F' → Sim K G F' H' σ ρ' → Rep K F' v d → Q d ρ' → R v H') → t σ H R
def SndT (K : PySem.W.Frag) (t : TT) (T : TTp) : Prop := ∀ (G F H : Hp) (σ : L2.St) (ρ : Ro) (Q : Bool → Ro → Prop) (R : Bool → Hp → Prop), Sim K G F H σ ρ → T ρ Q →
  (∀ b F' H' ρ', Up G F F' → Sim K G F' H' σ ρ' → Q b ρ' → R b H') → t σ H R
def SndA (K : PySem.W.Frag) (t : TA) (T : TAp) : Prop := ∀ (G F H : Hp) (σ : L2.St) (ρ : Ro) (Q : List D → Ro → Prop) (R : List V → Hp → Prop), Sim K G F H σ ρ → T ρ Q →
  (∀ vs ds F' H' ρ', Up G F F' → Sim K G F' H' σ ρ' → Reps K F' vs ds → Q ds ρ' → R vs H') → t σ H R
def SndC (K : PySem.W.Frag) (t : TE) (T : TCp) : Prop := ∀ (G F H : Hp) (σ : L2.St) (ρ : Ro) (Q : Cell → Ro → Prop) (R : VK), Sim K G F H σ ρ → T ρ Q →
  (∀ v c F' H' ρ', Up G F F' → Sim K G F' H' (σ ++ [some v]) (ρ' ++ [some c]) → Q c ρ' → R v H') → t σ H R
structure PPE (X : Cx) (e : Expr) (t : TE) (T : TEp) : Prop where
  pe : PE X e t
  snd : SndE X.K t T
structure PPC (X : Cx) (e : Expr) (t : TE) (T : TCp) : Prop where
  pe : PE X e t
  snd : SndC X.K t T
structure PPT (X : Cx) (e : Expr) (t : TT) (T : TTp) : Prop where
  pt : PT X e t
  snd : SndT X.K t T
structure PPW (X : Cx) (e : Expr) (t : TT) (T : TTp) : Prop where
  pw : PW X e t
  snd : SndT X.K t T
structure PPA (X : Cx) (es : List Expr) (t : TA) (T : TAp) : Prop where
  pa : PA X es t
  snd : SndA X.K t T
/-- what an operation makes of values that are frozen: one that stands, or a new object -/
inductive Res (K : PySem.W.Frag) (F H : Hp) (v : V) (d : D) : Hp → Hp → Prop
  | old : Rep K F v d → Res K F H v d F H
  | new {p : Addr} {o : HO} : H p = none → Rep K (upd F p o) v d → Res K F H v d (upd F p o) (upd H p o)
section
variable {K : PySem.W.Frag} {G F H F' H' : Hp} {σ : L2.St} {ρ : Ro} {v : V} {d : D}
theorem Sim.res (S : Sim K G F H σ ρ) (r : Res K F H v d F' H') : Up G F F' ∧ Sim K G F' H' σ ρ ∧ Rep K F' v d := by
  cases r with
  | old r => exact ⟨.refl _ _, S, r⟩
  | new h r => exact ⟨S.upNew h, S.new h, r⟩
/-- slots and a cell more -/
theorem Sim.drop {c : Cell} (S : Sim K G F H (σ ++ [some v]) (ρ ++ [some c])) : Sim K G F H σ ρ := by
  have hl : σ.length = ρ.length := by have := S.len; simpa using this
  have ix : ∀ {i : Nat} {c : Cell}, ρ[i]? = some (some c) → i < ρ.length := fun {i c} h => by
    rcases Nat.lt_or_ge i ρ.length with q | q
    · exact q
    · rw [List.getElem?_eq_none q] at h; cases h
  have up : ∀ {i : Nat} {x : Cell}, ρ[i]? = some (some x) → (ρ ++ [some c])[i]? = some (some x) := fun {i x} h => by
    rw [List.getElem?_append_left (ix h)]; exact h
  refine ⟨S.hF, S.hG, hl, fun i d h => ?_, fun i a xs h => ?_, fun i j a xs ys h1 h2 => S.ne i j a xs ys (up h1) (up h2)⟩
  · obtain ⟨v, h1, h2⟩ := S.val i d (up h)
    rw [List.getElem?_append_left (by rw [hl]; exact ix h)] at h1
    exact ⟨v, h1, h2⟩
  · obtain ⟨h1, h2⟩ := S.own i a xs (up h)
    rw [List.getElem?_append_left (by rw [hl]; exact ix h)] at h1
    exact ⟨h1, h2⟩
theorem Sim.lastVal (S : Sim K G F H (σ ++ [some v]) (ρ ++ [some (.val d)])) : Rep K F v d := by
  have hl : σ.length = ρ.length := by have := S.len; simpa using this
  obtain ⟨u, h1, h2⟩ := S.val ρ.length d (by simp)
  rw [← hl] at h1
  simp at h1
  subst h1
  exact h2
theorem Sim.lastOwn {a : Addr} {xs : List D} (S : Sim K G F H (σ ++ [some v]) (ρ ++ [some (.own a xs)])) : v = .ref a ∧ F a = none ∧ G a = none ∧ NotOwn ρ a ∧ ∃ vs, H a = some (.lst vs) ∧ Reps K F vs xs := by
  have hl : σ.length = ρ.length := by have := S.len; simpa using this
  obtain ⟨h1, h2, h3, h4⟩ := S.own ρ.length a xs (by simp)
  rw [← hl] at h1
  simp at h1
  refine ⟨h1, h2, h3, fun i ys h => ?_, h4⟩
  have hi : i < ρ.length := by
    rcases Nat.lt_or_ge i ρ.length with q | q
    · exact q
    · rw [List.getElem?_eq_none q] at h; cases h
  have := S.ne i ρ.length a ys xs (by rw [List.getElem?_append_left hi]; exact h) (by simp)
  omega
theorem Sim.pushVal (S : Sim K G F H σ ρ) (r : Rep K F v d) : Sim K G F H (σ ++ [some v]) (ρ ++ [some (.val d)]) := by
  have cut : ∀ {i : Nat} {x : Cell}, (ρ ++ [some (.val d)])[i]? = some (some x) → (ρ[i]? = some (some x) ∧ i < ρ.length) ∨ (i = ρ.length ∧ x = .val d) := fun {i x} h => by
    rcases Nat.lt_or_ge i ρ.length with q | q
    · rw [List.getElem?_append_left q] at h; exact .inl ⟨h, q⟩
    · rw [List.getElem?_append_right q] at h
      rcases Nat.eq_zero_or_pos (i - ρ.length) with z | z
      · rw [z] at h; simp at h; exact .inr ⟨by omega, h.symm⟩
      · rw [List.getElem?_eq_none (by simp; omega)] at h; cases h
  refine ⟨S.hF, S.hG, by simp [S.len], fun i d' h => ?_, fun i a xs h => ?_, fun i j a xs ys h1 h2 => ?_⟩
  · rcases cut h with ⟨h, q⟩ | ⟨rfl, e⟩
    · obtain ⟨u, g1, g2⟩ := S.val i d' h
      exact ⟨u, by rw [List.getElem?_append_left (by rw [S.len]; exact q)]; exact g1, g2⟩
    · cases e
      exact ⟨v, by rw [← S.len]; simp, r⟩
  · rcases cut h with ⟨h, q⟩ | ⟨_, e⟩
    · obtain ⟨g1, g2⟩ := S.own i a xs h
      exact ⟨by rw [List.getElem?_append_left (by rw [S.len]; exact q)]; exact g1, g2⟩
    · cases e
  · rcases cut h1 with ⟨h1, _⟩ | ⟨_, e⟩
    · rcases cut h2 with ⟨h2, _⟩ | ⟨_, e⟩
      · exact S.ne i j a xs ys h1 h2
      · cases e
    · cases e
theorem Sim.pushOwn (S : Sim K G F H σ ρ) {a : Addr} {vs : List V} {xs : List D} (hH : H a = some (.lst vs)) (hF : F a = none) (hG : G a = none) (hn : NotOwn ρ a) (r : Reps K F vs xs) :
    Sim K G F H (σ ++ [some (.ref a)]) (ρ ++ [some (.own a xs)]) := by
  have cut : ∀ {i : Nat} {x : Cell}, (ρ ++ [some (.own a xs)])[i]? = some (some x) → (ρ[i]? = some (some x) ∧ i < ρ.length) ∨ (i = ρ.length ∧ x = .own a xs) := fun {i x} h => by
    rcases Nat.lt_or_ge i ρ.length with q | q
    · rw [List.getElem?_append_left q] at h; exact .inl ⟨h, q⟩
    · rw [List.getElem?_append_right q] at h
      rcases Nat.eq_zero_or_pos (i - ρ.length) with z | z
      · rw [z] at h; simp at h; exact .inr ⟨by omega, h.symm⟩
      · rw [List.getElem?_eq_none (by simp; omega)] at h; cases h
  refine ⟨S.hF, S.hG, by simp [S.len], fun i d' h => ?_, fun i b ys h => ?_, fun i j b ys zs h1 h2 => ?_⟩
  · rcases cut h with ⟨h, q⟩ | ⟨_, e⟩
    · obtain ⟨u, g1, g2⟩ := S.val i d' h
      exact ⟨u, by rw [List.getElem?_append_left (by rw [S.len]; exact q)]; exact g1, g2⟩
    · cases e
  · rcases cut h with ⟨h, q⟩ | ⟨rfl, e⟩
    · obtain ⟨g1, g2⟩ := S.own i b ys h
      exact ⟨by rw [List.getElem?_append_left (by rw [S.len]; exact q)]; exact g1, g2⟩
    · cases e
      exact ⟨by rw [← S.len]; simp, hF, hG, vs, hH, r⟩
  · rcases cut h1 with ⟨h1, _⟩ | ⟨e1, e⟩
    · rcases cut h2 with ⟨h2, _⟩ | ⟨_, e⟩
      · exact S.ne i j b ys zs h1 h2
      · cases e
        exact absurd h1 (hn _ _)
    · cases e
      rcases cut h2 with ⟨h2, _⟩ | ⟨e2, _⟩
      · exact absurd h2 (hn _ _)
      · omega
/-- the cell is stored -/
theorem Sim.store {c : Cell} (S : Sim K G F H (σ ++ [some v]) (ρ ++ [some c])) (i : Nat) : Sim K G F H (σ.set i (some v)) (ρ.set i (some c)) := by
  cases c with
  | val d => exact S.drop.setVal i S.lastVal
  | own a xs =>
    obtain ⟨rfl, h2, h3, h4, vs, h5, h6⟩ := S.lastOwn
    exact S.drop.setOwn i h5 h2 h3 h4 h6
/-- the cell is frozen -/
def Cell.froz : Cell → D
  | .val d => d
  | .own _ xs => .lst xs
theorem Sim.froz {c : Cell} (S : Sim K G F H (σ ++ [some v]) (ρ ++ [some c])) : ∃ F', Up G F F' ∧ Sim K G F' H σ ρ ∧ Rep K F' v c.froz := by
  cases c with
  | val d => exact ⟨F, .refl _ _, S.drop, S.lastVal⟩
  | own a xs =>
    obtain ⟨rfl, _⟩ := S.lastOwn
    obtain ⟨F', u, r, S'⟩ := S.freeze (i := ρ.length) (a := a) (xs := xs) (by simp)
    refine ⟨F', u, ?_, r⟩
    rw [List.set_append_right _ _ (Nat.le_refl _)] at S'
    simp at S'
    exact S'.drop
end
section
variable {X : Cx}
/-! ### cells and values -/
def pFrz (T : TCp) : TEp := fun ρ Q => T ρ fun c ρ' => Q c.froz ρ'
def pVal (T : TEp) : TCp := fun ρ Q => T ρ fun d ρ' => Q (.val d) ρ'
theorem ppe_frz {e : Expr} {t : TE} {T : TCp} (h : PPC X e t T) : PPE X e t (pFrz T) := ⟨h.pe, fun G F H σ ρ Q R S hT k => h.snd G F H σ ρ _ R S hT fun v c F' H' ρ' u S' q => by
  obtain ⟨F2, u2, S2, r2⟩ := S'.froz
  exact k v _ F2 H' ρ' (u.trans u2) S2 r2 q⟩
theorem ppc_val {e : Expr} {t : TE} {T : TEp} (h : PPE X e t T) : PPC X e t (pVal T) := ⟨h.pe, fun G F H σ ρ Q R S hT k => h.snd G F H σ ρ _ R S hT fun v d F' H' ρ' u S' r q => k v _ F' H' ρ' u (S'.pushVal r) q⟩
/-! ### names, constants -/
def pVar (i : Nat) : TEp := fun ρ Q => match ρ[i]? with
  | some (some (.val d)) => Q d ρ
  | some (some (.own _ xs)) => Q (.lst xs) (ρ.set i (some (.val (.lst xs))))
  | _ => False
theorem ppe_var (i : Nat) {x : Str} {pos : Pos} (hN : X.N[i]? = some x := by rfl) (hv : Vis X.env.scope x := by first | exact Or.inl rfl | exact Or.inr (Or.inl rfl) | exact Or.inr (Or.inr rfl)) (hd : (x == ("__debug__" : Str)) = false := by decide)
    (hcd : (x == ("__classdict__" : Str)) = false := by decide) : PPE X (.Name x pos) (tVar i) (pVar i) := ⟨pe_var hN hv hd hcd, fun G F H σ ρ Q R S hT k => by
  unfold pVar at hT
  split at hT
  · rename_i d e
    obtain ⟨v, h1, h2⟩ := S.val i d e
    exact ⟨v, h1, k v d F H ρ (.refl _ _) S h2 hT⟩
  · rename_i a xs e
    obtain ⟨F', u, r, S'⟩ := S.freeze e
    exact ⟨.ref a, (S.own i a xs e).1, k _ _ F' H _ u S' r hT⟩
  · exact hT.elim⟩
/-- a name whose list is handed on -/
def pMove (i : Nat) : TCp := fun ρ Q => match ρ[i]? with
  | some (some (.val d)) => Q (.val d) ρ
  | some (some (.own a xs)) => Q (.own a xs) (ρ.set i none)
  | _ => False
theorem ppc_move (i : Nat) {x : Str} {pos : Pos} (hN : X.N[i]? = some x := by rfl) (hv : Vis X.env.scope x := by first | exact Or.inl rfl | exact Or.inr (Or.inl rfl) | exact Or.inr (Or.inr rfl)) (hd : (x == ("__debug__" : Str)) = false := by decide)
    (hcd : (x == ("__classdict__" : Str)) = false := by decide) : PPC X (.Name x pos) (tVar i) (pMove i) := ⟨pe_var hN hv hd hcd, fun G F H σ ρ Q R S hT k => by
  unfold pMove at hT
  split at hT
  · rename_i d e
    obtain ⟨v, h1, h2⟩ := S.val i d e
    exact ⟨v, h1, k v _ F H ρ (.refl _ _) (S.pushVal h2) hT⟩
  · rename_i a xs e
    obtain ⟨h1, h2, h3, vs, h4, h5⟩ := S.own i a xs e
    refine ⟨.ref a, h1, k _ _ F H _ (.refl _ _) ((S.forget' i).pushOwn h4 h2 h3 (fun j ys q => ?_) h5) hT⟩
    by_cases hj : i = j
    · subst hj
      by_cases hi : i < ρ.length
      · rw [List.getElem?_set_self hi] at q; cases q
      · rw [List.getElem?_eq_none (by simpa using hi)] at q; cases q
    · rw [List.getElem?_set_ne hj] at q
      exact hj (S.ne _ _ _ _ _ e q)
  · exact hT.elim⟩
def pC (d : D) : TEp := fun ρ Q => Q d ρ
theorem snd_c {K : PySem.W.Frag} {v : V} {d : D} (h : ∀ F, Rep K F v d) : SndE K (tC v) (pC d) := fun G F H σ ρ Q R S hT k => k v d F H ρ (.refl _ _) S (h F) hT
theorem ppe_int {i j pos} : PPE X (.Constant (.int i) j pos) (tC (.int i)) (pC (.int i)) := ⟨pe_int, snd_c fun _ => .int i⟩
theorem ppe_bl {b j pos} : PPE X (.Constant (.bool b) j pos) (tC (.bl b)) (pC (.bl b)) := ⟨pe_bl, snd_c fun _ => .bl b⟩
theorem ppe_non {j pos} : PPE X (.Constant .none j pos) (tC .non) (pC .non) := ⟨pe_non, snd_c fun _ => .non⟩
theorem ppe_str {x j pos} : PPE X (.Constant (.str x) j pos) (tC (.str x)) (pC (.str x)) := ⟨pe_str, snd_c fun _ => .str x⟩
/-! ### operators -/
abbrev F2 := D → D → (D → Prop) → Prop
abbrev F1 := D → (D → Prop) → Prop
def OpP (K : PySem.W.Frag) (r : R2) (f : F2) : Prop := ∀ (F H : Hp) (x y : V) (dx dy : D) (Q : D → Prop) (R : VK), Same F H → Rep K F x dx → Rep K F y dy → f dx dy Q →
  (∀ v d F' H', Res K F H v d F' H' → Q d → R v H') → r x y H R
def UnP (K : PySem.W.Frag) (r : V → Hp → VK → Prop) (f : F1) : Prop := ∀ (F H : Hp) (x : V) (dx : D) (Q : D → Prop) (R : VK), Same F H → Rep K F x dx → f dx Q →
  (∀ v d F' H', Res K F H v d F' H' → Q d → R v H') → r x H R
def CallP (K : PySem.W.Frag) (r : List V → Hp → VK → Prop) (f : List D → (D → Prop) → Prop) : Prop := ∀ (F H : Hp) (xs : List V) (ds : List D) (Q : D → Prop) (R : VK), Same F H → Reps K F xs ds → f ds Q →
  (∀ v d F' H', Res K F H v d F' H' → Q d → R v H') → r xs H R
def pOp (f : F2) (Ta Tb : TEp) : TEp := fun ρ Q => Ta ρ fun x ρ1 => Tb ρ1 fun y ρ2 => f x y fun z => Q z ρ2
def pUn (f : F1) (Ta : TEp) : TEp := fun ρ Q => Ta ρ fun x ρ1 => f x fun z => Q z ρ1
theorem snd_op {K : PySem.W.Frag} {r : R2} {f : F2} {ta tb : TE} {Ta Tb : TEp} (hp : OpP K r f) (ha : SndE K ta Ta) (hb : SndE K tb Tb) : SndE K (tOp r ta tb) (pOp f Ta Tb) := fun G F H σ ρ Q R S hT k =>
  ha G F H σ ρ _ _ S hT fun x dx F1 H1 ρ1 u1 S1 r1 h1 => hb G F1 H1 σ ρ1 _ _ S1 h1 fun y dy F2 H2 ρ2 u2 S2 r2 h2 =>
    hp F2 H2 x y dx dy _ _ S2.hF (r1.mono u2.ex) r2 h2 fun v d F3 H3 res q => by
      obtain ⟨u3, S3, r3⟩ := S2.res res
      exact k v d F3 H3 ρ2 ((u1.trans u2).trans u3) S3 r3 q
theorem snd_un {K : PySem.W.Frag} {r : V → Hp → VK → Prop} {f : F1} {ta : TE} {Ta : TEp} (hp : UnP K r f) (ha : SndE K ta Ta) : SndE K (tUn r ta) (pUn f Ta) := fun G F H σ ρ Q R S hT k =>
  ha G F H σ ρ _ _ S hT fun x dx F1 H1 ρ1 u1 S1 r1 h1 => hp F1 H1 x dx _ _ S1.hF r1 h1 fun v d F3 H3 res q => by
      obtain ⟨u3, S3, r3⟩ := S1.res res
      exact k v d F3 H3 ρ1 (u1.trans u3) S3 r3 q
variable {a b c : Expr} {ta tb tc : TE} {Ta Tb Tc : TEp} {pos : Pos}
theorem ppe_op {op : Operator} {r : R2} {f : F2} (ho : OpR X (binaryOp op) r) (hp : OpP X.K r f) (ha : PPE X a ta Ta) (hb : PPE X b tb Tb) : PPE X (.BinOp a op b pos) (tOp r ta tb) (pOp f Ta Tb) := ⟨pe_op ho ha.pe hb.pe, snd_op hp ha.snd hb.snd⟩
theorem ppe_un {op : UnaryOp} {r : V → Hp → VK → Prop} {f : F1} (ho : UnR X (unaryOp op) r) (hp : UnP X.K r f) (ha : PPE X a ta Ta) : PPE X (.UnaryOp op a pos) (tUn r ta) (pUn f Ta) := ⟨pe_un ho ha.pe, snd_un hp ha.snd⟩
theorem OpP.or {K : PySem.W.Frag} {r r' : R2} {f : F2} (h : ∀ (F H : Hp) (x y : V) (dx dy : D) (Q : D → Prop) (R : VK), Same F H → Rep K F x dx → Rep K F y dy → f dx dy Q →
  (∀ v d F' H', Res K F H v d F' H' → Q d → R v H') → r x y H R ∨ r' x y H R) : OpP K (fun x y H Q => r x y H Q ∨ r' x y H Q) f := h
/-! + -/
def fAdd : F2 := fun x y Q => match x, y with
  | .int i, .int j => Q (.int (i + j))
  | .str i, .str j => i.length + j.length ≤ sizeLine ∧ Q (.str (i ++ j))
  | .lst xs, .lst ys => xs.length + ys.length ≤ sizeLine ∧ Q (.lst (xs ++ ys))
  | .tup xs, .tup ys => xs.length + ys.length ≤ sizeLine ∧ Q (.tup (xs ++ ys))
  | _, _ => False
def rAddA (K : PySem.W.Frag) : R2 := fun x y H Q => (rI0 (fun i j => .int (i + j)) x y H Q ∨ (∃ i j, x = .str i ∧ y = .str j ∧ i.length + j.length ≤ sizeLine ∧ Q (.str (i ++ j)) H)) ∨ (rCat x y H Q ∨ rCatA K x y H Q)
theorem opr_add : OpR X (binaryOp .Add) (rAddA X.K) := OpR.or (OpR.or op_add op_add_str) (OpR.or op_cat op_catA)
theorem opp_add : OpP X.K (rAddA X.K) fAdd := fun F H x y dx dy Q R hs rx ry hf k => by
  cases rx with
  | int i =>
    cases ry with
    | int j => exact .inl (.inl ⟨i, j, rfl, rfl, k _ _ _ _ (.old (.int _)) hf⟩)
    | _ => exact hf.elim
  | str i =>
    cases ry with
    | str j => exact .inl (.inr ⟨i, j, rfl, rfl, hf.1, k _ _ _ _ (.old (.str _)) hf.2⟩)
    | _ => exact hf.elim
  | lst h1 r1 =>
    cases ry with
    | lst h2 r2 =>
      refine .inr (.inl ⟨_, _, _, _, rfl, rfl, hs _ _ h1, hs _ _ h2, by rw [r1.length, r2.length]; exact hf.1, fun p hp => ?_⟩)
      have hn : F p = none := hs.free hp
      exact k _ _ _ _ (.new hp (.lst upd_same ((r1.mono (same_new hn)).append (r2.mono (same_new hn))))) hf.2
    | _ => exact hf.elim
  | @tup _ vs xs h1 r1 =>
    cases ry with
    | @tup _ ws ys h2 r2 =>
      refine .inr (.inr ⟨_, _, _, _, rfl, rfl, SqT.of (hs _ _ h1), SqT.of (hs _ _ h2), by rw [r1.length, r2.length]; exact hf.1, fun e => ?_, fun e e2 => ?_, fun e e2 p hp => ?_⟩)
      · have := r1.length; subst e; cases r1; exact k _ _ _ _ (.old (.tup h2 r2)) hf.2
      · subst e2; cases r2; refine k _ _ _ _ (.old (.tup h1 r1)) ?_; have := hf.2; simpa using this
      · have hn : F p = none := hs.free hp
        exact k _ _ _ _ (.new hp (.tup upd_same ((r1.mono (same_new hn)).append (r2.mono (same_new hn))))) hf.2
    | _ => exact hf.elim
  | non => exact hf.elim
  | bl _ => exact hf.elim
  | scr _ => exact hf.elim
  | adr _ => exact hf.elim
  | exc _ _ _ _ => exact hf.elim
/-! ints -/
def f2I (C : Int → Int → Prop) (g : Int → Int → D) : F2 := fun x y Q => match x, y with
  | .int i, .int j => C i j ∧ Q (g i j)
  | _, _ => False
def f2I0 (g : Int → Int → D) : F2 := fun x y Q => match x, y with
  | .int i, .int j => Q (g i j)
  | _, _ => False
theorem opp_I {C C' : Int → Int → Prop} {g : Int → Int → V} {g' : Int → Int → D} (hc : ∀ i j, C' i j → C i j) (h : ∀ F i j, Rep X.K F (g i j) (g' i j)) : OpP X.K (rI C g) (f2I C' g') := fun F H x y dx dy Q R hs rx ry hf k => by
  cases rx with
  | int i =>
    cases ry with
    | int j => exact ⟨i, j, rfl, rfl, hc _ _ hf.1, k _ _ _ _ (.old (h F i j)) hf.2⟩
    | _ => exact hf.elim
  | _ => exact hf.elim
theorem opp_I0 {g : Int → Int → V} {g' : Int → Int → D} (h : ∀ F i j, Rep X.K F (g i j) (g' i j)) : OpP X.K (rI0 g) (f2I0 g') := fun F H x y dx dy Q R hs rx ry hf k => by
  cases rx with
  | int i =>
    cases ry with
    | int j => exact ⟨i, j, rfl, rfl, k _ _ _ _ (.old (h F i j)) hf⟩
    | _ => exact hf.elim
  | _ => exact hf.elim
def fSub : F2 := f2I0 fun i j => .int (i - j)
def fMod : F2 := f2I (fun _ j => 0 < j) fun i j => .int (i % j)
def fDiv : F2 := f2I (fun _ j => 0 < j ∧ j < 2 ^ 64) fun i j => .int (i / j)
def fMulI : F2 := f2I CMul fun i j => .int (i * j)
theorem ppe_add (ha : PPE X a ta Ta) (hb : PPE X b tb Tb) : PPE X (.BinOp a .Add b pos) (tOp (rAddA X.K) ta tb) (pOp fAdd Ta Tb) := ppe_op opr_add opp_add ha hb
theorem ppe_sub (ha : PPE X a ta Ta) (hb : PPE X b tb Tb) : PPE X (.BinOp a .Sub b pos) (tOp (rI0 fun i j => .int (i - j)) ta tb) (pOp fSub Ta Tb) := ppe_op op_sub (opp_I0 fun _ _ _ => .int _) ha hb
theorem ppe_mul (ha : PPE X a ta Ta) (hb : PPE X b tb Tb) : PPE X (.BinOp a .Mult b pos) (tOp (rI CMul fun i j => .int (i * j)) ta tb) (pOp fMulI Ta Tb) := ppe_op op_mul (opp_I (fun _ _ h => h) fun _ _ _ => .int _) ha hb
theorem ppe_mod (ha : PPE X a ta Ta) (hb : PPE X b tb Tb) : PPE X (.BinOp a .Mod b pos) (tOp (rI (fun _ j => 0 < j) fun i j => .int (i % j)) ta tb) (pOp fMod Ta Tb) := ppe_op op_mod (opp_I (fun _ _ h => h) fun _ _ _ => .int _) ha hb
theorem ppe_div (ha : PPE X a ta Ta) (hb : PPE X b tb Tb) : PPE X (.BinOp a .FloorDiv b pos) (tOp (rI CDivW fun i j => .int (i / j)) ta tb) (pOp fDiv Ta Tb) :=
  ppe_op op_fdivW (opp_I (fun _ _ h => wide_div (b := 64) h.1 (by have := h.1; have := h.2; omega) (by decide) (by decide)) fun _ _ _ => .int _) ha hb
/-- a power of two written numbers -/
theorem ppe_powc {i j : Int} {u v pa pb} (n : Int) (h : 0 ≤ j ∧ j ≤ 1000000 ∧ i.natAbs < 2 ^ 64 := by decide) (hn : i ^ j.toNat = n := by decide) : PPE X (.BinOp (.Constant (.int i) u pa) .Pow (.Constant (.int j) v pb) pos) (tOp (rI CPow fun i j => .int (i ^ j.toNat)) (tC (.int i)) (tC (.int j))) (pC (.int n)) :=
  ⟨pe_op op_pow pe_int pe_int, fun G F H σ ρ Q R S hT k => ⟨i, j, rfl, rfl, h, by show R (V.int (i ^ j.toNat)) H; rw [hn]; exact k _ _ F H ρ (.refl _ _) S (.int n) hT⟩⟩
/-- list * int -/
def fRep : F2 := fun x y Q => match x, y with
  | .lst xs, .int k => 0 ≤ k ∧ k ≤ 1000 ∧ xs.length ≤ 1000 ∧ Q (.lst (List.replicate k.toNat xs).flatten)
  | _, _ => False
theorem Reps.rep {K : PySem.W.Frag} {F : Hp} {vs : List V} {ds : List D} (h : Reps K F vs ds) : ∀ n : Nat, Reps K F (List.replicate n vs).flatten (List.replicate n ds).flatten
  | 0 => .nil
  | n + 1 => by
    rw [List.replicate_succ, List.replicate_succ, List.flatten_cons, List.flatten_cons]
    exact h.append (Reps.rep h n)
theorem ppe_rep (ha : PPE X a ta Ta) (hb : PPE X b tb Tb) : PPE X (.BinOp a .Mult b pos) (tOp rRep ta tb) (pOp fRep Ta Tb) := ppe_op op_rep (fun F H x y dx dy Q R hs rx ry hf k => by
  cases rx with
  | @lst a vs xs h1 r1 =>
    cases ry with
    | int n =>
      obtain ⟨f1, f2, f3, f4⟩ := hf
      refine ⟨_, _, _, rfl, rfl, hs _ _ h1, by omega, by omega, ?_, fun p hp => ?_⟩
      · have e1 : vs.length ≤ 1000 := by rw [r1.length]; exact f3
        have e2 : n.toNat ≤ 1000 := by omega
        exact Nat.le_trans (Nat.mul_le_mul e1 e2) (by decide)
      · have hn : F p = none := hs.free hp
        exact k _ _ _ _ (.new hp (.lst upd_same ((r1.mono (same_new hn)).rep n.toNat))) f4
    | _ => exact hf.elim
  | _ => exact hf.elim) ha hb
def fNeg : F1 := fun x Q => match x with
  | .int i => Q (.int (-i))
  | _ => False
theorem ppe_neg (ha : PPE X a ta Ta) : PPE X (.UnaryOp .USub a pos) (tUn (rU fun i => .int (-i)) ta) (pUn fNeg Ta) := ppe_un un_neg (fun F H x dx Q R hs rx hf k => by
  cases rx with
  | int i => exact ⟨i, rfl, k _ _ _ _ (.old (.int _)) hf⟩
  | _ => exact hf.elim) ha
/-! ### comparisons -/
mutual
def toPy : D → PyData
  | .non => .none
  | .bl b => .bool b
  | .int i => .int i
  | .str x => .str x
  | .lst xs => .list (toPys xs)
  | .tup xs => .tuple (toPys xs)
  | .scr ns => .list (ns.map PyData.int)
  | .adr _ => .dict []
  | .exc _ _ => .dict []
def toPys : List D → List PyData
  | [] => []
  | x :: xs => toPy x :: toPys xs
end
theorem dp_ints {K : PySem.W.Frag} {H : Hp} : ∀ ns : List Int, DpAll K H (ns.map V.int) (ns.map PyData.int)
  | [] => .nil
  | n :: ns => .cons (.int n) (dp_ints ns)
mutual
theorem Rep.dp0 {K : PySem.W.Frag} {F H : Hp} (e : Same F H) : ∀ {v : V} {d : D}, Rep K F v d → PyData.canLay0 (toPy d) = true → Dp K H v (toPy d)
  | _, _, .non, _ => by rw [toPy]; exact .non
  | _, _, .bl b, _ => by rw [toPy]; exact .bl b
  | _, _, .int i, _ => by rw [toPy]; exact .int i
  | _, _, .str x, _ => by rw [toPy]; exact .str x
  | _, _, .lst h r, c => by
    rw [toPy] at c ⊢
    rw [PyData.canLay0] at c
    exact .lst (SqL.of (e _ _ h)) (Reps.dp0 e r c)
  | _, _, .tup h r, c => by
    rw [toPy] at c ⊢
    rw [PyData.canLay0] at c
    exact .tup (SqT.of (e _ _ h)) (Reps.dp0 e r c)
  | _, _, .scr h, _ => by rw [toPy]; exact .lst (e.seq h) (dp_ints _)
  | _, _, .adr _, c => by rw [toPy, PyData.canLay0] at c; cases c
  | _, _, .exc _ _ _ _, c => by rw [toPy, PyData.canLay0] at c; cases c
theorem Reps.dp0 {K : PySem.W.Frag} {F H : Hp} (e : Same F H) : ∀ {vs : List V} {ds : List D}, Reps K F vs ds → PyData.canLayAll0 (toPys ds) = true → DpAll K H vs (toPys ds)
  | _, _, .nil, _ => by rw [toPys]; exact .nil
  | _, _, .cons h r, c => by
    rw [toPys] at c ⊢
    rw [PyData.canLayAll0, Bool.and_eq_true] at c
    exact .cons (Rep.dp0 e h c.1) (Reps.dp0 e r c.2)
end
theorem shaped_lay {d : PyData} (h : SeqAt.shaped d = true) : PyData.canLay0 d = true := by
  unfold SeqAt.shaped at h
  rw [Bool.and_eq_true] at h
  exact h.1
theorem Rep.dp {K : PySem.W.Frag} {F H : Hp} (e : Same F H) {v : V} {d : D} (r : Rep K F v d) (h : SeqAt.shaped (toPy d) = true) : Dp K H v (toPy d) := r.dp0 e (shaped_lay h)
def D.eqv (x y : D) : Bool := PyData.eqv (toPy x) (toPy y)
def D.sh (x : D) : Prop := SeqAt.shaped (toPy x) = true
def fEq : F2 := fun x y Q => x.sh ∧ y.sh ∧ Q (.bl (x.eqv y))
def fNe : F2 := fun x y Q => x.sh ∧ y.sh ∧ Q (.bl (!x.eqv y))
theorem opp_eq : OpP X.K (rEqD X.K) fEq := fun F H x y dx dy Q R hs rx ry hf k => ⟨_, _, rx.dp hs hf.1, ry.dp hs hf.2.1, hf.1, hf.2.1, k _ _ _ _ (.old (.bl _)) hf.2.2⟩
theorem opp_ne : OpP X.K (rNeD X.K) fNe := fun F H x y dx dy Q R hs rx ry hf k => ⟨_, _, rx.dp hs hf.1, ry.dp hs hf.2.1, hf.1, hf.2.1, k _ _ _ _ (.old (.bl _)) hf.2.2⟩
def fLt : F2 := f2I0 fun i j => .bl (decide (i < j))
def fLe : F2 := f2I0 fun i j => .bl (decide (i ≤ j))
def fGt : F2 := f2I0 fun i j => .bl (decide (j < i))
def fGe : F2 := f2I0 fun i j => .bl (decide (j ≤ i))
def D.isNon : D → Bool
  | .non => true
  | _ => false
def fIsN : F2 := fun x y Q => match y with | .non => Q (.bl x.isNon) | _ => False
def fNotN : F2 := fun x y Q => match y with | .non => Q (.bl (!x.isNon)) | _ => False
theorem ite_t {A B : Prop} (h : if true = true then A else B) : A := by simpa using h
theorem ite_f {A B : Prop} (h : if false = true then A else B) : B := by simpa using h
theorem ite_ti {A B : Prop} (h : A) : if true = true then A else B := by simpa using h
theorem ite_fi {A B : Prop} (h : B) : if false = true then A else B := by simpa using h
/-- a comparison: its rule by values and without a heap -/
structure Cmp (X : Cx) (op : CmpOp) (r : R2) (f : F2) : Prop where
  op : OpR X (compareOp op) r
  pp : OpP X.K r f
theorem cm_lt : Cmp X .Lt (rI0 fun i j => .bl (decide (i < j))) fLt := ⟨op_lt, opp_I0 fun _ _ _ => .bl _⟩
theorem cm_le : Cmp X .LtE (rI0 fun i j => .bl (decide (i ≤ j))) fLe := ⟨op_le, opp_I0 fun _ _ _ => .bl _⟩
theorem cm_gt : Cmp X .Gt (rI0 fun i j => .bl (decide (j < i))) fGt := ⟨op_gt, opp_I0 fun _ _ _ => .bl _⟩
theorem cm_ge : Cmp X .GtE (rI0 fun i j => .bl (decide (j ≤ i))) fGe := ⟨op_ge, opp_I0 fun _ _ _ => .bl _⟩
theorem cm_eq (hu : X.A.units + 64 < cLine) : Cmp X .Eq (rEqD X.K) fEq := ⟨op_eqD hu, opp_eq⟩
theorem cm_ne (hu : X.A.units + 64 < cLine) : Cmp X .NotEq (rNeD X.K) fNe := ⟨op_neD hu, opp_ne⟩
theorem dec_non {K : PySem.W.Frag} {F : Hp} {v : V} {d : D} (r : Rep K F v d) : decide (v = .non) = d.isNon := by
  cases r <;> rfl
theorem cm_isN : Cmp X .Is (fun x y H Q => y = .non ∧ Q (.bl (decide (x = .non))) H) fIsN := ⟨op_isN, fun F H x y dx dy Q R hs rx ry hf k => by
  cases ry with
  | non => exact ⟨rfl, by rw [dec_non rx]; exact k _ _ _ _ (.old (.bl _)) hf⟩
  | _ => exact hf.elim⟩
theorem cm_notN : Cmp X .IsNot (fun x y H Q => y = .non ∧ Q (.bl (!decide (x = .non))) H) fNotN := ⟨op_notN, fun F H x y dx dy Q R hs rx ry hf k => by
  cases ry with
  | non => exact ⟨rfl, by rw [dec_non rx]; exact k _ _ _ _ (.old (.bl _)) hf⟩
  | _ => exact hf.elim⟩
theorem ppe_cmp {op : CmpOp} {r : R2} {f : F2} (hc : Cmp X op r f) (ha : PPE X a ta Ta) (hb : PPE X b tb Tb) (hm : behindInMarks op b = false) : PPE X (.Compare a [op] [b] pos) (tOp r ta tb) (pOp f Ta Tb) := ⟨pe_cmpR hc.op ha.pe hb.pe hm, snd_op hc.pp ha.snd hb.snd⟩
def pTest (T : TEp) : TTp := fun ρ Q => T ρ fun x ρ' => match x with | .bl k => Q k ρ' | _ => False
theorem snd_test {K : PySem.W.Frag} {t : TE} {T : TEp} (h : SndE K t T) : SndT K (tTest t) (pTest T) := fun G F H σ ρ Q R S hT k => h G F H σ ρ _ _ S hT fun v d F' H' ρ' u S' r q => by
  cases r with
  | bl b => exact ⟨b, rfl, k b F' H' ρ' u S' q⟩
  | _ => exact q.elim
theorem ppt_cmp {op : CmpOp} {r : R2} {f : F2} (hc : Cmp X op r f) (ha : PPE X a ta Ta) (hb : PPE X b tb Tb) (hm : behindInMarks op b = false) : PPT X (.Compare a [op] [b] pos) (tTest (tOp r ta tb)) (pTest (pOp f Ta Tb)) := ⟨pt_cmpR hc.op ha.pe hb.pe hm, snd_test (snd_op hc.pp ha.snd hb.snd)⟩
theorem ppt_val {e : Expr} {t : TE} {T : TEp} (h : PPE X e t T) (he : ∀ whole, isTrue e X.env whole = (do let v ← whole; standAt e.pos; holding [v] (truthy v)) := by intro _; rfl) : PPT X e (tB t) (pTest T) := ⟨pt_val h.pe he, snd_test h.snd⟩
def pChain (f g : F2) (Ta Tb Tc : TEp) : TEp := fun ρ Q => Ta ρ fun x ρ1 => Tb ρ1 fun y ρ2 => f x y fun z => match z with
  | .bl k => if k = true then Tc ρ2 fun w ρ3 => g y w fun z => Q z ρ3 else Q (.bl false) ρ2
  | _ => False
theorem snd_chain {K : PySem.W.Frag} {r r' : R2} {f g : F2} (hp : OpP K r f) (hq : OpP K r' g) (ha : SndE K ta Ta) (hb : SndE K tb Tb) (hc : SndE K tc Tc) : SndE K (tChain r r' ta tb tc) (pChain f g Ta Tb Tc) := fun G F H σ ρ Q R S hT k =>
  ha G F H σ ρ _ _ S hT fun x dx F1 H1 ρ1 u1 S1 r1 h1 => hb G F1 H1 σ ρ1 _ _ S1 h1 fun y dy F2 H2 ρ2 u2 S2 r2 h2 =>
    hp F2 H2 x y dx dy _ _ S2.hF (r1.mono u2.ex) r2 h2 fun v d F3 H3 res q => by
      obtain ⟨u3, S3, r3⟩ := S2.res res
      cases r3 with
      | bl b =>
        refine ⟨b, rfl, ?_⟩
        cases b with
        | true =>
          have q := ite_t q
          refine ite_ti ?_
          refine hc G F3 H3 σ ρ2 _ _ S3 q fun w dw F4 H4 ρ4 u4 S4 r4 h4 => hq F4 H4 y w dy dw _ _ S4.hF ((r2.mono u3.ex).mono u4.ex) r4 h4 fun v d F5 H5 res5 q5 => ?_
          obtain ⟨u5, S5, r5⟩ := S4.res res5
          exact k v d F5 H5 ρ4 ((((u1.trans u2).trans u3).trans u4).trans u5) S5 r5 q5
        | false =>
          have q := ite_f q
          refine ite_fi ?_
          exact k _ _ F3 H3 ρ2 ((u1.trans u2).trans u3) S3 (.bl _) q
      | _ => exact q.elim
theorem ppe_chain {op op' : CmpOp} {r r' : R2} {f g : F2} (h1 : Cmp X op r f) (h2 : Cmp X op' r' g) (ha : PPE X a ta Ta) (hb : PPE X b tb Tb) (hc : PPE X c tc Tc) (hm : lastMarks [op, op'] [b, c] = false := by with_unfolding_all rfl) :
    PPE X (.Compare a [op, op'] [b, c] pos) (tChain r r' ta tb tc) (pChain f g Ta Tb Tc) := ⟨pe_chain h1.op h2.op ha.pe hb.pe hc.pe hm, snd_chain h1.pp h2.pp ha.snd hb.snd hc.snd⟩
theorem ppt_chain {op op' : CmpOp} {r r' : R2} {f g : F2} (h1 : Cmp X op r f) (h2 : Cmp X op' r' g) (ha : PPE X a ta Ta) (hb : PPE X b tb Tb) (hc : PPE X c tc Tc) (hm : lastMarks [op, op'] [b, c] = false := by with_unfolding_all rfl) :
    PPT X (.Compare a [op, op'] [b, c] pos) (tTest (tChain r r' ta tb tc)) (pTest (pChain f g Ta Tb Tc)) := ⟨pt_chain h1.op h2.op ha.pe hb.pe hc.pe hm, snd_test (snd_chain h1.pp h2.pp ha.snd hb.snd hc.snd)⟩
/-! ### and, or, not -/
variable {tA tB' : TT} {TA' TB' : TTp} {rest : List Expr}
def pAnd (T U : TTp) : TTp := fun ρ Q => T ρ fun c ρ1 => if c = true then U ρ1 Q else Q false ρ1
def pOr (T U : TTp) : TTp := fun ρ Q => T ρ fun c ρ1 => if c = true then Q true ρ1 else U ρ1 Q
def pNot (T : TTp) : TTp := fun ρ Q => T ρ fun c ρ1 => Q (!c) ρ1
theorem ppw_and1 (ha : PPT X a tA TA') : PPW X (.BoolOp .And [a] pos) tA TA' := ⟨pw_and1 ha.pt, ha.snd⟩
theorem ppw_or1 (ha : PPT X a tA TA') : PPW X (.BoolOp .Or [a] pos) tA TA' := ⟨pw_or1 ha.pt, ha.snd⟩
theorem ppw_and (ha : PPT X a tA TA') (hb : PPW X (.BoolOp .And (b :: rest) pos) tB' TB') : PPW X (.BoolOp .And (a :: b :: rest) pos) (tAnd tA tB') (pAnd TA' TB') := ⟨pw_and ha.pt hb.pw, fun G F H σ ρ Q R S hT k =>
  ha.snd G F H σ ρ _ _ S hT fun c F1 H1 ρ1 u1 S1 h1 => by
    cases c with
    | true => have h1 := ite_t h1; refine ite_ti ?_; exact hb.snd G F1 H1 σ ρ1 _ _ S1 h1 fun b F2 H2 ρ2 u2 S2 h2 => k b F2 H2 ρ2 (u1.trans u2) S2 h2
    | false => have h1 := ite_f h1; refine ite_fi ?_; exact k _ F1 H1 ρ1 u1 S1 h1⟩
theorem ppw_or (ha : PPT X a tA TA') (hb : PPW X (.BoolOp .Or (b :: rest) pos) tB' TB') : PPW X (.BoolOp .Or (a :: b :: rest) pos) (tOr tA tB') (pOr TA' TB') := ⟨pw_or ha.pt hb.pw, fun G F H σ ρ Q R S hT k =>
  ha.snd G F H σ ρ _ _ S hT fun c F1 H1 ρ1 u1 S1 h1 => by
    cases c with
    | false => have h1 := ite_f h1; refine ite_fi ?_; exact hb.snd G F1 H1 σ ρ1 _ _ S1 h1 fun b F2 H2 ρ2 u2 S2 h2 => k b F2 H2 ρ2 (u1.trans u2) S2 h2
    | true => have h1 := ite_t h1; refine ite_ti ?_; exact k _ F1 H1 ρ1 u1 S1 h1⟩
theorem PPW.ppt {e : Expr} {t : TT} {T : TTp} (h : PPW X e t T) : PPT X e t T := ⟨h.pw.pt, h.snd⟩
theorem ppt_not (ha : PPT X a tA TA') : PPT X (.UnaryOp .Not a pos) (tNot tA) (pNot TA') := ⟨pt_not ha.pt, fun G F H σ ρ Q R S hT k => ha.snd G F H σ ρ _ _ S hT fun c F1 H1 ρ1 u1 S1 h1 => k _ F1 H1 ρ1 u1 S1 h1⟩
def pAndV (Ta Tb : TEp) : TEp := fun ρ Q => Ta ρ fun x ρ1 => match x with | .bl c => if c = true then Tb ρ1 Q else Q (.bl false) ρ1 | _ => False
def pOrV (Ta Tb : TEp) : TEp := fun ρ Q => Ta ρ fun x ρ1 => match x with | .bl c => if c = true then Q (.bl true) ρ1 else Tb ρ1 Q | _ => False
def pNotV (Ta : TEp) : TEp := fun ρ Q => Ta ρ fun x ρ1 => match x with | .bl c => Q (.bl (!c)) ρ1 | _ => False
theorem ppe_one {op} (h : PPE X a ta Ta) : PPE X (.BoolOp op [a] pos) ta Ta := ⟨pe_one h.pe, h.snd⟩
theorem ppe_and (ha : PPE X a ta Ta) (hb : PPE X (.BoolOp .And (b :: rest) pos) tb Tb) : PPE X (.BoolOp .And (a :: b :: rest) pos) (tAndV ta tb) (pAndV Ta Tb) := ⟨pe_and ha.pe hb.pe, fun G F H σ ρ Q R S hT k =>
  ha.snd G F H σ ρ _ _ S hT fun x dx F1 H1 ρ1 u1 S1 r1 h1 => by
    cases r1 with
    | bl c =>
      refine ⟨c, rfl, ?_⟩
      cases c with
      | true => have h1 := ite_t h1; refine ite_ti ?_; exact hb.snd G F1 H1 σ ρ1 _ _ S1 h1 fun v d F2 H2 ρ2 u2 S2 r2 h2 => k v d F2 H2 ρ2 (u1.trans u2) S2 r2 h2
      | false => have h1 := ite_f h1; refine ite_fi ?_; exact k _ _ F1 H1 ρ1 u1 S1 (.bl _) h1
    | _ => exact h1.elim⟩
theorem ppe_or (ha : PPE X a ta Ta) (hb : PPE X (.BoolOp .Or (b :: rest) pos) tb Tb) : PPE X (.BoolOp .Or (a :: b :: rest) pos) (tOrV ta tb) (pOrV Ta Tb) := ⟨pe_or ha.pe hb.pe, fun G F H σ ρ Q R S hT k =>
  ha.snd G F H σ ρ _ _ S hT fun x dx F1 H1 ρ1 u1 S1 r1 h1 => by
    cases r1 with
    | bl c =>
      refine ⟨c, rfl, ?_⟩
      cases c with
      | false => have h1 := ite_f h1; refine ite_fi ?_; exact hb.snd G F1 H1 σ ρ1 _ _ S1 h1 fun v d F2 H2 ρ2 u2 S2 r2 h2 => k v d F2 H2 ρ2 (u1.trans u2) S2 r2 h2
      | true => have h1 := ite_t h1; refine ite_ti ?_; exact k _ _ F1 H1 ρ1 u1 S1 (.bl _) h1
    | _ => exact h1.elim⟩
theorem ppe_not (ha : PPE X a ta Ta) : PPE X (.UnaryOp .Not a pos) (tNotV ta) (pNotV Ta) := ⟨pe_not ha.pe, fun G F H σ ρ Q R S hT k =>
  ha.snd G F H σ ρ _ _ S hT fun x dx F1 H1 ρ1 u1 S1 r1 h1 => by
    cases r1 with
    | bl c => exact ⟨c, rfl, k _ _ F1 H1 ρ1 u1 S1 (.bl _) h1⟩
    | _ => exact h1.elim⟩
def pIf (T : TTp) (Ta Tb : TEp) : TEp := fun ρ Q => T ρ fun c ρ1 => if c = true then Ta ρ1 Q else Tb ρ1 Q
theorem ppe_ifExp {c : Expr} (hc : PPT X c tA TA') (ha : PPE X a ta Ta) (hb : PPE X b tb Tb) : PPE X (.IfExp c a b pos) (tIf tA ta tb) (pIf TA' Ta Tb) := ⟨pe_ifExp hc.pt ha.pe hb.pe, fun G F H σ ρ Q R S hT k =>
  hc.snd G F H σ ρ _ _ S hT fun c F1 H1 ρ1 u1 S1 h1 => by
    cases c with
    | true => have h1 := ite_t h1; refine ite_ti ?_; exact ha.snd G F1 H1 σ ρ1 _ _ S1 h1 fun v d F2 H2 ρ2 u2 S2 r2 h2 => k v d F2 H2 ρ2 (u1.trans u2) S2 r2 h2
    | false => have h1 := ite_f h1; refine ite_fi ?_; exact hb.snd G F1 H1 σ ρ1 _ _ S1 h1 fun v d F2 H2 ρ2 u2 S2 r2 h2 => k v d F2 H2 ρ2 (u1.trans u2) S2 r2 h2⟩
/-! ### argument lists, displays -/
variable {e : Expr} {es : List Expr} {te : TE} {Te : TEp} {t : TA} {T : TAp}
def pNil : TAp := fun ρ Q => Q [] ρ
def pCons (Ta : TEp) (Tr : TAp) : TAp := fun ρ Q => Ta ρ fun x ρ1 => Tr ρ1 fun xs ρ2 => Q (x :: xs) ρ2
theorem ppa_nil : PPA X [] tNil pNil := ⟨pa_nil, fun G F H σ ρ Q R S hT k => k _ _ F H ρ (.refl _ _) S .nil hT⟩
theorem ppa_cons (ha : PPE X e te Te) (hr : PPA X es t T) (hs : starEach (e :: es) X.env = (false, eval e X.env) :: starEach es X.env := by rfl) : PPA X (e :: es) (tCons te t) (pCons Te T) := ⟨pa_cons ha.pe hr.pa hs, fun G F H σ ρ Q R S hT k =>
  ha.snd G F H σ ρ _ _ S hT fun v d F1 H1 ρ1 u1 S1 r1 h1 => hr.snd G F1 H1 σ ρ1 _ _ S1 h1 fun vs ds F2 H2 ρ2 u2 S2 r2 h2 => k _ _ F2 H2 ρ2 (u1.trans u2) S2 (.cons (r1.mono u2.ex) r2) h2⟩
def pTup (T : TAp) : TEp := fun ρ Q => T ρ fun xs ρ1 => xs.length ≤ sizeLine ∧ Q (.tup xs) ρ1
theorem ppe_tup {x1} (h : PPA X es t T) : PPE X (.Tuple es x1 pos) (tTup t) (pTup T) := ⟨pe_tup h.pa, fun G F H σ ρ Q R S hT k =>
  h.snd G F H σ ρ _ _ S hT fun vs ds F1 H1 ρ1 u1 S1 r1 h1 => ⟨by rw [r1.length]; exact h1.1, fun p hp => k _ _ _ _ ρ1 (u1.trans (S1.upNew hp)) (S1.new hp) (.tup upd_same (r1.mono (same_new (S1.freshF hp)))) h1.2⟩⟩
/-- a new list: frozen | one's own -/
def pLst (T : TAp) : TEp := fun ρ Q => T ρ fun xs ρ1 => xs.length ≤ sizeLine ∧ Q (.lst xs) ρ1
theorem ppe_lst (h : PPA X es t T) : PPE X (.List es pos) (tLst t) (pLst T) := ⟨pe_lst h.pa, fun G F H σ ρ Q R S hT k =>
  h.snd G F H σ ρ _ _ S hT fun vs ds F1 H1 ρ1 u1 S1 r1 h1 => ⟨by rw [r1.length]; exact h1.1, fun p hp => k _ _ _ _ ρ1 (u1.trans (S1.upNew hp)) (S1.new hp) (.lst upd_same (r1.mono (same_new (S1.freshF hp)))) h1.2⟩⟩
def pLstO (T : TAp) : TCp := fun ρ Q => T ρ fun xs ρ1 => xs.length ≤ sizeLine ∧ ∀ a, Q (.own a xs) ρ1
theorem Sim.newOwn {K : PySem.W.Frag} {G F H : Hp} {σ : L2.St} {ρ : Ro} (S : Sim K G F H σ ρ) {p : Addr} {vs : List V} {xs : List D} (h : H p = none) (r : Reps K F vs xs) : Sim K G F (upd H p (.lst vs)) (σ ++ [some (.ref p)]) (ρ ++ [some (.own p xs)]) :=
  (S.more h).pushOwn upd_same (S.freshF h) (S.freshG h) (S.notOwn h) r
theorem ppc_lst (h : PPA X es t T) : PPC X (.List es pos) (tLst t) (pLstO T) := ⟨pe_lst h.pa, fun G F H σ ρ Q R S hT k =>
  h.snd G F H σ ρ _ _ S hT fun vs ds F1 H1 ρ1 u1 S1 r1 h1 => ⟨by rw [r1.length]; exact h1.1, fun p hp => k _ _ _ _ ρ1 u1 (S1.newOwn hp r1) (h1.2 p)⟩⟩
/-! ### calls of built-ins -/
def pCB (f : List D → (D → Prop) → Prop) (T : TAp) : TEp := fun ρ Q => T ρ fun xs ρ1 => f xs fun z => Q z ρ1
theorem snd_cb {K : PySem.W.Frag} {r : List V → Hp → VK → Prop} {f : List D → (D → Prop) → Prop} (hp : CallP K r f) (h : SndA K t T) : SndE K (tCB r t) (pCB f T) := fun G F H σ ρ Q R S hT k =>
  h G F H σ ρ _ _ S hT fun vs ds F1 H1 ρ1 u1 S1 r1 h1 => hp F1 H1 vs ds _ _ S1.hF r1 h1 fun v d F2 H2 res q => by
    obtain ⟨u2, S2, r2⟩ := S1.res res
    exact k v d F2 H2 ρ1 (u1.trans u2) S2 r2 q
/-- a built-in function by its name | a built-in type -/
theorem ppe_callB {x : Str} {p : Pos} {id : String} {r : List V → Hp → VK → Prop} {f : List D → (D → Prop) → Prop} (hc : CallR X (.builtin id) r) (hp : CallP X.K r f) (hg : Gl X x) (hm : X.mg x = none) (hv : bootBuiltins x = some (.builtin id)) (ha : PPA X (e :: es) t T)
    (hn : x ≠ "__name__" := by decide) (hdb : (x == ("__debug__" : Str)) = false := by decide)
    (he : starEach (e :: es) X.env = (false, eval e X.env) :: starEach es X.env := by rfl) (hpl : (backTo pos (starEach es X.env)).any (·.1) = false := by rfl) : PPE X (.Call (.Name x p) (e :: es) [] pos) (tCB r t) (pCB f T) := ⟨pe_callB hc hg hm hv ha.pa hn hdb he hpl, snd_cb hp ha.snd⟩
theorem ppe_callTy {x : Str} {p : Pos} {id : String} {r : List V → Hp → VK → Prop} {f : List D → (D → Prop) → Prop} (hc : CallR X (.type id) r) (hp : CallP X.K r f) (hg : Gl X x) (hm : X.mg x = none) (hv : bootBuiltins x = some (.type id)) (ha : PPA X (e :: es) t T)
    (hn : x ≠ "__name__" := by decide) (hdb : (x == ("__debug__" : Str)) = false := by decide)
    (he : starEach (e :: es) X.env = (false, eval e X.env) :: starEach es X.env := by rfl) (hpl : (backTo pos (starEach es X.env)).any (·.1) = false := by rfl) : PPE X (.Call (.Name x p) (e :: es) [] pos) (tCB r t) (pCB f T) := ⟨pe_callTy hc hg hm hv ha.pa hn hdb he hpl, snd_cb hp ha.snd⟩
end
end Pl
namespace Pl
open PySem PySem.Spec PyProof.Rows L2
open PySem.W (AlikeAll minD maxD minD_ints maxD_ints min_list_data min_tuple_data max_list_data max_tuple_data min_list_default max_list_default)
/-! ### t[::-1] of a tuple -/
theorem places_rev (n : Nat) : Builtin.Slice.slicePlaces ((n : Int) - 1) (-1) (-1) = n := by
  unfold Builtin.Slice.slicePlaces
  by_cases h : n = 0
  · subst h; rfl
  · first
    | (simp; omega)
    | (simp only [show ¬ ((-1 : Int) > 0) by decide, if_false]; split <;> omega)
theorem adjust_rev (n : Nat) : Builtin.Slice.sliceAdjust none none (-1) (n : Int) = ((n : Int) - 1, -1) := by
  first
  | rfl
  | simp [Builtin.Slice.sliceAdjust]
theorem pick_rev (xs : Array Value) : ((List.range xs.size).filterMap fun (m : Nat) => xs[(((xs.size : Int) - 1) + (m : Int) * (-1)).toNat]?).toArray = xs.toList.reverse.toArray := by
  have e : ((List.range xs.size).filterMap fun (m : Nat) => xs[(((xs.size : Int) - 1) + (m : Int) * (-1)).toNat]?) = ((List.range xs.size).map fun k => xs.size - 1 - k).filterMap (xs[·]?) := by
    rw [List.filterMap_map]
    have g : ∀ l : List Nat, (l.filterMap fun (m : Nat) => xs[(((xs.size : Int) - 1) + (m : Int) * (-1)).toNat]?) = l.filterMap ((fun x => xs[x]?) ∘ fun k => xs.size - 1 - k) := fun l => by
      congr 1
      funext m
      show xs[(((xs.size : Int) - 1) + (m : Int) * (-1)).toNat]? = xs[xs.size - 1 - m]?
      rw [show (((xs.size : Int) - 1) + (m : Int) * (-1)).toNat = xs.size - 1 - m by omega]
    exact g _
  rw [e, PySem.W.krv_range, List.filterMap_reverse, PySem.W.krv_all]
section
variable {prog : Program} {w : World} {A : Around} {E : Value → Shared → Prop} {s : Shared}
theorem getItem_tuple_rev {t sl : Addr} {items : Array Value} {vl vu vs : Value} {Q : Value → Shared → Prop} (ht : IsTup s.heap t items) (hs : s.heap.IsSliceOf sl vl vu vs) (pl : IsPart vl none) (pu : IsPart vu none) (ps : IsPart vs (some (-1)))
    (h : Q (.ref s.heap.objs.size) { s with heap := s.heap.push { cls := .type "tuple", data := .seq items.toList.reverse.toArray } })
    (hsz : items.size ≤ sizeLine) : wpAny (model prog w) A (getItem (.ref t) (.ref sl)) Q E s := by
  have htake : sizeOk (.seq items.toList.reverse.toArray) := by
    show items.toList.reverse.toArray.size ≤ sizeLine
    rw [List.size_toArray, List.length_reverse, Array.length_toList]
    omega
  obtain ⟨os, hos, hcs, hds⟩ := id hs
  have hTs : s.TypeIs (.ref sl) "slice" := ⟨os, hos, hcs⟩
  unfold getItem
  try with_reducible refine wpAny_holding ?_
  first | refine wpAny_bind (wpAny_pure ?_) | skip
  refine wpAny_bind (wpAny_sequenceKey ht.typeIs (by decide) ?_)
  refine wpAny_bind (wpAny_callSpecial?_slot (name := Str.ofString "__getitem__") ht.typeIs PyProof.Rows.slot_tuple_getitem
    (wpAny_call_entry PyProof.Rows.slot_tuple_getitem ht.typeIs entry_tuple_getitem ?_ (args_tuple_getitem _ _)))
  show wpAny _ _ (Builtin.Tuple.tupleItemsOf (.ref t) >>= _) _ _ s
  refine wpAny_bind (tupleItemsOf_ ht ?_)
  refine wpAny_bind (wpAny_typeOf hTs ?_)
  rw [if_pos (by decide)]
  have applied : ∀ {Q : Int × Int × Nat → Shared → Prop} {A' : Around} {E' : Value → Shared → Prop}, Q ((items.size : Int) - 1, -1, items.size) s → wpAny (model prog w) A' (Builtin.Slice.sliceApplied (.ref sl) (pure (items.size : Int))) Q E' s := by
    intro Q A' E' h
    unfold Builtin.Slice.sliceApplied Builtin.Slice.sliceFields
    refine wpAny_bind (wpAny_bind (wpAny_field hos hds (x := vl) rfl (wpAny_bind (wpAny_field hos hds (x := vu) rfl (wpAny_bind (wpAny_field hos hds (x := vs) rfl (wpAny_pure ?_)))))))
    refine wpAny_bind (HT.slicePart_ ps ?_)
    show wpAny _ _ (if ((-1 : Int) == 0) = true then _ else _) _ _ s
    rw [if_neg (by decide)]
    refine wpAny_bind (HT.slicePart_ pl (wpAny_bind (HT.slicePart_ pu (wpAny_bind (wpAny_pure ?_)))))
    show wpAny _ _ (match Builtin.Slice.sliceAdjust none none (-1) (items.size : Int) with | (lo, hi) => pure (lo, (-1 : Int), Builtin.Slice.slicePlaces lo hi (-1))) _ _ s
    rw [adjust_rev]
    show wpAny _ _ (pure ((items.size : Int) - 1, (-1 : Int), Builtin.Slice.slicePlaces ((items.size : Int) - 1) (-1) (-1))) _ _ s
    rw [places_rev]
    exact wpAny_pure h
  refine wpAny_bind (applied ?_)
  have hno : ¬ ((((items.size : Int) - 1) == 0 && (-1 : Int) == 1 && items.size == items.size) = true) := by
    intro q
    rw [Bool.and_eq_true, Bool.and_eq_true] at q
    exact absurd q.1.2 (by decide)
  show wpAny _ _ (if (((items.size : Int) - 1) == 0 && (-1 : Int) == 1 && items.size == items.size) = true then _ else _) _ _ s
  rw [if_neg hno, pick_rev]
  first
    | exact wpAny_bind (m := Builtin.Tuple.tupleExact _) (wpAny_newObj_type (wpAny_pure ⟨_, rfl, wpAny_pure h⟩) htake)
    | exact wpAny_bind (m := Builtin.Tuple.tupleExact _) (wpAny_newObj_type (wpAny_bind (wpAny_pure (wpAny_pure ⟨_, rfl, wpAny_pure h⟩))) htake)
    | exact wpAny_bind (wpAny_bind (m := Builtin.Tuple.tupleExact _) (wpAny_newObj_type (wpAny_pure (wpAny_pure ⟨_, rfl, wpAny_pure h⟩)) htake))
    | exact wpAny_bind (wpAny_bind (m := Builtin.Tuple.tupleExact _) (wpAny_newObj_type (wpAny_pure ⟨_, rfl, wpAny_pure h⟩) htake))
end
section
variable {X : Cx}
def tRevA (K : PySem.W.Frag) (te : TE) : TE := fun σ H Q => te σ H fun x H1 => ∃ a xs, x = .ref a ∧ ((SqL K H1 a xs ∧ ∀ p, H1 p = none → Q (.ref p) (upd H1 p (.lst xs.reverse))) ∨ (SqT K H1 a xs ∧ ∀ p, H1 p = none → Q (.ref p) (upd H1 p (.tup xs.reverse))))
theorem pe_revA {e : Expr} {te : TE} {k : Nat} {p1 p2 p3 pos : Pos} (he : PE X e te) : PE X (.Subscript e (.Slice none none (some (.UnaryOp .USub (.Constant (.int 1) k p1) p2)) p3) pos) (tRevA X.K te) := by
  refine ⟨fun pins s σ H Q I h => ?_⟩
  refine Subscript_ (thn (he.run pins s σ H _ I h) fun v s1 ⟨x, H1, I1, r1, q1⟩ => ?_)
  obtain ⟨a, xs, ex, hx⟩ := q1
  subst ex
  cases r1
  have hst : PO X (some (.UnaryOp .USub (.Constant (.int 1) k p1) p2)) (tPart (tUn (rU fun i => .int (-i)) (tC (.int 1)))) := po_some (pe_un un_neg pe_int)
  refine wpAny_Slice (thn (po_none.run pins s1 σ H1 (fun o H2 => o = none ∧ H2 = H1) I1 ⟨rfl, rfl⟩) fun vl s2 ⟨l, H2, I2, pl, el, e2⟩ => ?_)
  subst el e2
  refine thn (po_none.run pins s2 σ H2 (fun o H3 => o = none ∧ H3 = H2) I2 ⟨rfl, rfl⟩) fun vu s3 ⟨u, H3, I3, pu, eu, e3⟩ => ?_
  subst eu e3
  refine thn (hst.run pins s3 σ H3 (fun o H4 => o = some (-1) ∧ H4 = H3) I3 ⟨1, rfl, -1, rfl, rfl, rfl⟩) fun vs s4 ⟨o, H4, I4, ps, eo, e4⟩ => ?_
  subst eo e4
  have I5 : Inv X pins σ H4 { s4 with heap := s4.heap.push { cls := .type "slice", data := .fields #[vl, vu, vs] } } := I4.kept (t' := s4.toks) fun b ob q => Heap.get?_push_of_some _ q
  show wpAny (model X.prog X.w) X.A (subscriptTail e (.Slice none none (some (.UnaryOp .USub (.Constant (.int 1) k p1) p2)) p3) (.ref a) (.ref s4.heap.objs.size)) (EP X pins σ Q) X.xe { s4 with heap := s4.heap.push { cls := .type "slice", data := .fields #[vl, vu, vs] } }
  rcases hx with ⟨hx, q⟩ | ⟨hx, q⟩
  · obtain ⟨its, r, ht, hz⟩ := I5.list hx
    have hlen := r.length
    refine tail_any (ops := [.ref a, .ref s4.heap.objs.size]) ht.isList.typeIs (PySem.slot_list_getitem.lookup) ?_ (by with_unfolding_all rfl)
    refine wpAny_getItem_list_slice ht.isList (Heap.IsSliceOf.new _ vl vu vs) pl pu ps (by decide) ?_ (by rw [List.size_toArray]; omega)
    rw [PySem.W.krv_pick]
    refine ⟨.ref _, _, I5.laid (t' := s4.toks) (o := .lst xs.reverse) (fun b ob q => Heap.get?_push_of_some _ q) (Nat.le_refl _) ?_, rfl, q _ (I5.hok.fresh (Nat.le_refl _))⟩
    exact ⟨by rw [List.length_reverse]; exact hz, _, 0, r.reverse, Heap.get?_push_size _ rfl⟩
  · obtain ⟨its, r, ht, hz⟩ := I5.tuple hx
    have hlen := r.length
    refine tail_any (ops := [.ref a, .ref s4.heap.objs.size]) ht.typeIs (PyProof.Rows.slot_tuple_getitem.lookup) ?_ (by with_unfolding_all rfl)
    refine getItem_tuple_rev ht (Heap.IsSliceOf.new _ vl vu vs) pl pu ps ?_ (by rw [List.size_toArray]; omega)
    refine ⟨.ref _, _, I5.laid (t' := s4.toks) (o := .tup xs.reverse) (fun b ob q => Heap.get?_push_of_some _ q) (Nat.le_refl _) ?_, rfl, q _ (I5.hok.fresh (Nat.le_refl _))⟩
    exact ⟨by rw [List.length_reverse]; exact hz, _, r.reverse, ⟨_, Heap.get?_push_size _ rfl, rfl, _, rfl⟩⟩
/-! ### min, max of a list or tuple of ints, with default= or without -/
theorem alike_ints (ns : List Int) : AlikeAll (ns.map PyData.int) := ⟨fun x hx y hy => by
  obtain ⟨i, _, rfl⟩ := List.mem_map.mp hx
  obtain ⟨j, _, rfl⟩ := List.mem_map.mp hy
  rfl, fun x hx => by
  obtain ⟨i, _, rfl⟩ := List.mem_map.mp hx
  simp⟩
theorem depth_ints : ∀ ns : List Int, PyData.depthAll (ns.map PyData.int) = 0
  | [] => rfl
  | n :: ns => by
    show max (PyData.depth (.int n)) (PyData.depthAll (ns.map PyData.int)) = 0
    rw [depth_ints ns]; rfl
theorem reads_vals {h : Heap} : ∀ {ns : List Int} {us : List Value}, Vals (ns.map V.int) us → ∃ as, ReadsAll h us (ns.map PyData.int) as
  | [], _, .nil => ⟨_, .nil⟩
  | n :: ns, _, .cons r t => by
    obtain ⟨tk, rfl⟩ := r
    obtain ⟨as, q⟩ := reads_vals (h := h) t
    exact ⟨_, .cons (.int _ _) q⟩
theorem reads_int {h : Heap} {v : Value} {n : Int} {bs : List Addr} (r : Reads h v (.int n) bs) : ∃ t, v = .int n t := by
  cases r; exact ⟨_, rfl⟩
/-- the list or tuple at a of those ints -/
def SqI (K : PySem.W.Frag) (H : Hp) (a : Addr) (ns : List Int) : Prop := SqL K H a (ns.map V.int) ∨ SqT K H a (ns.map V.int)
def rBest (K : PySem.W.Frag) (g : Int → Int → Int) : List V → Hp → VK → Prop := fun vs H Q => ∃ (a : Addr) (n : Int) (ns : List Int), vs = [V.ref a] ∧ SqI K H a (n :: ns) ∧ Q (.int (ns.foldl g n)) H
theorem cr_minA (hc : X.calm = true) (hu : X.A.units + 64 < cLine) : CallR X (.builtin "min") (rBest X.K min) := by
  intro pins s σ H vs us Q I r h
  obtain ⟨a, n, ns, rfl, hs, q⟩ := h
  rw [Vals.ref1 r]
  have hd : X.A.units + 1 + PyData.depthAll (.int n :: ns.map PyData.int) < cLine := by
    rw [show (PyData.int n :: ns.map PyData.int) = (n :: ns).map PyData.int from rfl, depth_ints]; omega
  have fin : ∀ (v : Value) (h' : Heap) (tk : Nat) (bs : List Addr), Reads h' v (minD (.int n) (ns.map PyData.int)) bs → (∀ b o, s.heap.get? b = some o → h'.get? b = some o) → EP X pins σ Q v { s with heap := h', toks := tk } := fun v h' tk bs r k => by
    rw [minD_ints] at r
    obtain ⟨t, rfl⟩ := reads_int r
    exact ⟨.int _, H, I.kept k, ⟨_, rfl⟩, q⟩
  rcases hs with hs | hs
  · obtain ⟨its, rv, hl, _⟩ := I.list hs
    obtain ⟨as, ra⟩ := reads_vals (h := s.heap) rv
    exact min_list_data (I.ok.hd hc) hl.isList ra (alike_ints (n :: ns)) hd fun i v h' tk bs _ r k => fin v h' tk bs r k
  · obtain ⟨its, rv, hl, _⟩ := I.tuple hs
    obtain ⟨as, ra⟩ := reads_vals (h := s.heap) rv
    exact min_tuple_data (I.ok.hd hc) (show s.heap.IsTuple a its.toArray from hl) ra (alike_ints (n :: ns)) hd fun i v h' tk bs _ r k => fin v h' tk bs r k
theorem cr_maxA (hc : X.calm = true) (hu : X.A.units + 64 < cLine) : CallR X (.builtin "max") (rBest X.K max) := by
  intro pins s σ H vs us Q I r h
  obtain ⟨a, n, ns, rfl, hs, q⟩ := h
  rw [Vals.ref1 r]
  have hd : X.A.units + 1 + PyData.depthAll (.int n :: ns.map PyData.int) < cLine := by
    rw [show (PyData.int n :: ns.map PyData.int) = (n :: ns).map PyData.int from rfl, depth_ints]; omega
  have fin : ∀ (v : Value) (h' : Heap) (tk : Nat) (bs : List Addr), Reads h' v (maxD (.int n) (ns.map PyData.int)) bs → (∀ b o, s.heap.get? b = some o → h'.get? b = some o) → EP X pins σ Q v { s with heap := h', toks := tk } := fun v h' tk bs r k => by
    rw [maxD_ints] at r
    obtain ⟨t, rfl⟩ := reads_int r
    exact ⟨.int _, H, I.kept k, ⟨_, rfl⟩, q⟩
  rcases hs with hs | hs
  · obtain ⟨its, rv, hl, _⟩ := I.list hs
    obtain ⟨as, ra⟩ := reads_vals (h := s.heap) rv
    exact max_list_data (I.ok.hd hc) hl.isList ra (alike_ints (n :: ns)) hd fun i v h' tk bs _ r k => fin v h' tk bs r k
  · obtain ⟨its, rv, hl, _⟩ := I.tuple hs
    obtain ⟨as, ra⟩ := reads_vals (h := s.heap) rv
    exact max_tuple_data (I.ok.hd hc) (show s.heap.IsTuple a its.toArray from hl) ra (alike_ints (n :: ns)) hd fun i v h' tk bs _ r k => fin v h' tk bs r k
/-- min(e, default=d), max(e, default=d) of a list -/
def bestD (g : Int → Int → Int) (d : V) : List Int → V
  | [] => d
  | n :: ns => .int (ns.foldl g n)
def tDflt (K : PySem.W.Frag) (g : Int → Int → Int) (te td : TE) : TE := fun σ H Q => te σ H fun x H1 => td σ H1 fun d H2 => ∃ a ns, x = .ref a ∧ SqL K H2 a (ns.map V.int) ∧ Q (bestD g d ns) H2
theorem pe_maxDflt {e d : Expr} {te td : TE} {p pos kp : Pos} (hg : Gl X "max") (hm : X.mg "max" = none) (hc : X.calm = true) (hu : X.A.units + 64 < cLine) (he : PE X e te) (hd : PE X d td)
    (hs : starEach [e] X.env = [(false, eval e X.env)] := by rfl) :
    PE X (.Call (.Name "max" p) [e] [⟨some "default", d, kp⟩] pos) (tDflt X.K max te td) := by
  refine ⟨fun pins s σ H Q I h => ?_⟩
  refine wpAny_Call_Name_kw (ld_blt (u := .builtin "max") I hg hm (by decide +kernel) ?_)
  refine callWith_kw (id := "max") ?_ (by rw [hs]; rfl) (by rw [hs]; rfl)
  have ha : PA X [e] (tCons te tNil) := pa_cons he pa_nil (by rw [hs]; rfl)
  have hk : PK X [⟨some "default", d, kp⟩] (tCons td tNil) := pk_cons hd pk_nil
  refine thn (ha.run pos pins s σ H (fun vs H1 => td σ H1 fun d H2 => ∃ a ns, vs = [.ref a] ∧ SqL X.K H2 a (ns.map V.int) ∧ Q (bestD max d ns) H2) I ?_) fun us s1 ⟨vs, H1, I1, r1, q1⟩ => ?_
  · show te σ H _
    have e : (fun (x : V) (H1 : Hp) => tNil σ H1 fun xs H2 => td σ H2 fun d H3 => ∃ a ns, (x :: xs) = [V.ref a] ∧ SqL X.K H3 a (ns.map V.int) ∧ Q (bestD max d ns) H3) = fun (x : V) (H1 : Hp) => td σ H1 fun d H2 => ∃ a ns, x = .ref a ∧ SqL X.K H2 a (ns.map V.int) ∧ Q (bestD max d ns) H2 := by
      funext x H1
      show (td σ H1 fun d H3 => ∃ a ns, [x] = [V.ref a] ∧ SqL X.K H3 a (ns.map V.int) ∧ Q (bestD max d ns) H3) = _
      congr 1
      funext d H3
      simp
    rw [e]
    exact h
  · refine thn (hk.run pos pins s1 σ H1 (fun zs H2 => ∃ d a ns, zs = [d] ∧ vs = [.ref a] ∧ SqL X.K H2 a (ns.map V.int) ∧ Q (bestD max d ns) H2) I1 ?_) fun ws s2 ⟨zs, H2, I2, r2, q2⟩ => ?_
    · show td σ H1 _
      have e : (fun (x : V) (H2 : Hp) => tNil σ H2 fun xs H3 => ∃ d a ns, (x :: xs) = [d] ∧ vs = [V.ref a] ∧ SqL X.K H3 a (ns.map V.int) ∧ Q (bestD max d ns) H3) = fun (d : V) (H2 : Hp) => ∃ a ns, vs = [V.ref a] ∧ SqL X.K H2 a (ns.map V.int) ∧ Q (bestD max d ns) H2 := by
        funext x H2
        show (∃ d a ns, [x] = [d] ∧ vs = [V.ref a] ∧ SqL X.K H2 a (ns.map V.int) ∧ Q (bestD max d ns) H2) = _
        simp
      rw [e]
      exact q1
    · obtain ⟨d, a, ns, rfl, rfl, hL, q⟩ := q2
      obtain ⟨w, rfl, rw'⟩ := vals1 r2
      rw [Vals.ref1 r1]
      obtain ⟨its, rv, hl, _⟩ := I2.list hL
      obtain ⟨as, ra⟩ := reads_vals (h := s2.heap) rv
      refine max_list_default (I2.ok.hd hc) hl.isList ra (alike_ints ns) (by rw [depth_ints]; omega) (fun e h' tk k => ?_) fun y ys i v h' tk bs e _ r k => ?_
      · have e' : ns = [] := by cases ns with | nil => rfl | cons _ _ => cases e
        subst e'
        exact ⟨d, H2, I2.kept k, rw', q⟩
      · cases ns with
        | nil => cases e
        | cons n ns =>
          cases e
          rw [maxD_ints] at r
          obtain ⟨t, rfl⟩ := reads_int r
          exact ⟨.int _, H2, I2.kept k, ⟨_, rfl⟩, q⟩
theorem pe_minDflt {e d : Expr} {te td : TE} {p pos kp : Pos} (hg : Gl X "min") (hm : X.mg "min" = none) (hc : X.calm = true) (hu : X.A.units + 64 < cLine) (he : PE X e te) (hd : PE X d td)
    (hs : starEach [e] X.env = [(false, eval e X.env)] := by rfl) :
    PE X (.Call (.Name "min" p) [e] [⟨some "default", d, kp⟩] pos) (tDflt X.K min te td) := by
  refine ⟨fun pins s σ H Q I h => ?_⟩
  refine wpAny_Call_Name_kw (ld_blt (u := .builtin "min") I hg hm (by decide +kernel) ?_)
  refine callWith_kw (id := "min") ?_ (by rw [hs]; rfl) (by rw [hs]; rfl)
  have ha : PA X [e] (tCons te tNil) := pa_cons he pa_nil (by rw [hs]; rfl)
  have hk : PK X [⟨some "default", d, kp⟩] (tCons td tNil) := pk_cons hd pk_nil
  refine thn (ha.run pos pins s σ H (fun vs H1 => td σ H1 fun d H2 => ∃ a ns, vs = [.ref a] ∧ SqL X.K H2 a (ns.map V.int) ∧ Q (bestD min d ns) H2) I ?_) fun us s1 ⟨vs, H1, I1, r1, q1⟩ => ?_
  · show te σ H _
    have e : (fun (x : V) (H1 : Hp) => tNil σ H1 fun xs H2 => td σ H2 fun d H3 => ∃ a ns, (x :: xs) = [V.ref a] ∧ SqL X.K H3 a (ns.map V.int) ∧ Q (bestD min d ns) H3) = fun (x : V) (H1 : Hp) => td σ H1 fun d H2 => ∃ a ns, x = .ref a ∧ SqL X.K H2 a (ns.map V.int) ∧ Q (bestD min d ns) H2 := by
      funext x H1
      show (td σ H1 fun d H3 => ∃ a ns, [x] = [V.ref a] ∧ SqL X.K H3 a (ns.map V.int) ∧ Q (bestD min d ns) H3) = _
      congr 1
      funext d H3
      simp
    rw [e]
    exact h
  · refine thn (hk.run pos pins s1 σ H1 (fun zs H2 => ∃ d a ns, zs = [d] ∧ vs = [.ref a] ∧ SqL X.K H2 a (ns.map V.int) ∧ Q (bestD min d ns) H2) I1 ?_) fun ws s2 ⟨zs, H2, I2, r2, q2⟩ => ?_
    · show td σ H1 _
      have e : (fun (x : V) (H2 : Hp) => tNil σ H2 fun xs H3 => ∃ d a ns, (x :: xs) = [d] ∧ vs = [V.ref a] ∧ SqL X.K H3 a (ns.map V.int) ∧ Q (bestD min d ns) H3) = fun (d : V) (H2 : Hp) => ∃ a ns, vs = [V.ref a] ∧ SqL X.K H2 a (ns.map V.int) ∧ Q (bestD min d ns) H2 := by
        funext x H2
        show (∃ d a ns, [x] = [d] ∧ vs = [V.ref a] ∧ SqL X.K H2 a (ns.map V.int) ∧ Q (bestD min d ns) H2) = _
        simp
      rw [e]
      exact q1
    · obtain ⟨d, a, ns, rfl, rfl, hL, q⟩ := q2
      obtain ⟨w, rfl, rw'⟩ := vals1 r2
      rw [Vals.ref1 r1]
      obtain ⟨its, rv, hl, _⟩ := I2.list hL
      obtain ⟨as, ra⟩ := reads_vals (h := s2.heap) rv
      refine min_list_default (I2.ok.hd hc) hl.isList ra (alike_ints ns) (by rw [depth_ints]; omega) (fun e h' tk k => ?_) fun y ys i v h' tk bs e _ r k => ?_
      · have e' : ns = [] := by cases ns with | nil => rfl | cons _ _ => cases e
        subst e'
        exact ⟨d, H2, I2.kept k, rw', q⟩
      · cases ns with
        | nil => cases e
        | cons n ns =>
          cases e
          rw [minD_ints] at r
          obtain ⟨t, rfl⟩ := reads_int r
          exact ⟨.int _, H2, I2.kept k, ⟨_, rfl⟩, q⟩
end
end Pl
namespace Pl
open PySem PySem.Spec PyProof.Rows L2
/-! ### sources: a list (true), a tuple (false) -/
def SqK (K : PySem.W.Frag) (k : Bool) (H : Hp) (a : Addr) (xs : List V) : Prop := match k with
  | true => SqL K H a xs
  | false => SqT K H a xs
def ItK (k : Bool) (h : Heap) (it a : Addr) (i : Nat) : Prop := match k with
  | true => h.IsListIter it a i
  | false => h.IsTupleIter it a i
def IsK (k : Bool) (h : Heap) (a : Addr) (items : Array Value) : Prop := match k with
  | true => h.IsList a items
  | false => h.IsTuple a items
def objK (k : Bool) (l : Addr) : Obj := match k with
  | true => { cls := .type "list_iterator", data := .fields #[.ref l, .int 0 0] }
  | false => { cls := .type "tuple_iterator", data := .fields #[.ref l, .int 0 0] }
theorem drawsK {prog : Program} {w : World} {A : Around} (hh : A.handled = none) (k : Bool) (it l : Addr) (hne : l ≠ it) (items : Array Value) :
    Draws prog w A it [it, l] items.size (fun i v => items[i]? = some v) (fun i h => ItK k h it l i ∧ IsK k h l items) := by
  cases k with
  | true => exact Draws.list hh it l hne items
  | false => exact Draws.tuple hh it l hne items
theorem beginsK (k : Bool) (l : Addr) (items : Array Value) : Begins (.ref l) (objK k l) fun h => IsK k h l items := by
  cases k with
  | true => exact begins_list l items
  | false => exact begins_tuple l items
theorem itK_new {k : Bool} {h : Heap} {it l : Addr} (e : h.get? it = some (objK k l)) : ItK k h it l 0 := by
  cases k with
  | true => exact ⟨_, e, rfl, rfl⟩
  | false => exact ⟨_, e, rfl, rfl⟩
theorem ItK.obj {k : Bool} {h : Heap} {it l : Addr} {i : Nat} (x : ItK k h it l i) : ∃ o, h.get? it = some o ∧ ∀ v, o.data ≠ .cell v := by
  cases k with
  | true => obtain ⟨o, e, _, d⟩ := x; exact ⟨o, e, fun v q => by rw [d] at q; cases q⟩
  | false => obtain ⟨o, e, _, d⟩ := x; exact ⟨o, e, fun v q => by rw [d] at q; cases q⟩
theorem ItK.at {k : Bool} {h h' : Heap} {it l : Addr} {i : Nat} (x : ItK k h it l i) (e : ∀ o, h.get? it = some o → h'.get? it = some o) : ItK k h' it l i := by
  cases k with
  | true => obtain ⟨o, q, r⟩ := x; exact ⟨o, e o q, r⟩
  | false => obtain ⟨o, q, r⟩ := x; exact ⟨o, e o q, r⟩
section
variable {X : Cx} {pins : List (Addr × Obj)} {σ : L2.St} {H : Hp} {s : Shared} {a : Addr} {xs ys : List V} {k : Bool}
theorem invK (I : Inv X pins σ H s) (h : SqK X.K k H a xs) : ∃ its : List Value, Vals xs its ∧ IsK k s.heap a its.toArray ∧ xs.length ≤ sizeLine ∧ a < s.heap.objs.size := by
  cases k with
  | true =>
    obtain ⟨its, r, p, z⟩ := I.list h
    exact ⟨its, r, p.isList, z, p.lt⟩
  | false =>
    obtain ⟨its, r, p, z⟩ := I.tuple h
    exact ⟨its, r, p, z, p.lt⟩
theorem invK_inj (I : Inv X pins σ H s) (h : SqK X.K k H a xs) (h' : SqK X.K k H a ys) : xs = ys := by
  cases k with
  | true => exact I.list_inj h h'
  | false => exact I.tuple_inj h h'
end
theorem SqK.mono {K : PySem.W.Frag} {k : Bool} {H H' : Hp} {a : Addr} {xs : List V} (e : Same H H') (h : SqK K k H a xs) : SqK K k H' a xs := by
  cases k with
  | true => exact e.seq h
  | false =>
    rcases h with (h | ⟨o, h⟩) | h
    · exact .inl (.inl (e _ _ h))
    · exact .inl (.inr ⟨o, e _ _ h⟩)
    · exact .inr h
/-! ### iterators that give out new tuples -/
theorem turn_goes {P : Program} {w : World} {K : PySem.W.Frag} {tg : Expr} {J : It} {fp : List Addr} {it : Addr} {tn : Nat → Heap → Prop}
    (mem : it ∈ fp) (obj : ∀ i h, tn i h → ∀ b ∈ fp, ∃ o, h.get? b = some o ∧ ∀ v, o.data ≠ .cell v) (keep : ∀ i h h', tn i h → (∀ b ∈ fp, ∀ o, h.get? b = some o → h'.get? b = some o) → tn i h')
    (go : ∀ (X : Cx), X.prog = P → X.w = w → X.K = K → X.calm = true → ∀ (i : Nat) (pins : List (Addr × Obj)) (s : Shared) (σ : L2.St) (H : Hp), Inv X pins σ H s → (∀ b ∈ fp, FpOk X pins H b) → tn i s.heap → (J.go i H ∨ J.stop i H) →
      ∃ (gfp wr : List Addr) (n : Nat) (Y : Nat → Heap → Value → Heap → Prop) (St : Nat → Heap → Prop), GoesN P w X.A tg it gfp wr n Y St ∧ St i s.heap ∧ (∀ b ∈ wr, b ∈ fp) ∧
        (J.go i H → i < n ∧ ∀ v h', Y i s.heap v h' → St (i + 1) h' → (∀ b o, b ∉ wr → s.heap.get? b = some o → h'.get? b = some o) →
          tn (i + 1) h' ∧ ∃ T ob, v = .ref T ∧ s.heap.objs.size ≤ T ∧ ObjOk P w (upd H T ob) h' T ob ∧ J.yld i H (.ref T) (upd H T ob)) ∧ (J.stop i H → i = n))
    (self : ∀ (A : Around) (i : Nat) (s : Shared) (Q : Value → Shared → Prop) (E : Value → Shared → Prop), tn i s.heap → Q (.ref it) s → wpAny (model P w) A (pyIter (.ref it)) Q E s) : Turn P w K tg J fp it tn where
  mem := mem
  obj := obj
  keep := keep
  item := by
    intro X hP hw hK hc i pins s σ H E I hf st hg
    obtain ⟨gfp, wr, n, Y, St, W, hst, hsub, h1, _⟩ := go X hP hw hK hc i pins s σ H I hf st (.inl hg)
    obtain ⟨hlt, h2⟩ := h1 hg
    subst hP hw hK
    refine W.goes i s (fun u s2 => ∃ x H', Inv X pins σ H' s2 ∧ RelV x u ∧ J.yld i H x H' ∧ tn (i + 1) s2.heap ∧ ∀ b ∈ fp, H' b = none) E hlt hst fun v h' tk hY st' hk _ => ?_
    obtain ⟨ht, T, ob, rfl, hT, new, yl⟩ := h2 v h' hY st' hk
    have I1 : Inv X pins σ (upd H T ob) { s with heap := h', toks := tk } := I.turnedNew (ch := wr) hk (fun b hb => hf b (hsub b hb)) hT new
    refine ⟨.ref T, _, I1, rfl, yl, ht, fun b hb => ?_⟩
    obtain ⟨o, e, _⟩ := obj i s.heap st b hb
    rw [upd_ne (Nat.ne_of_lt (Nat.lt_of_lt_of_le (Heap.lt_size e) hT))]
    exact (hf b hb).1
  done := by
    intro X hP hw hK hc i pins s σ H E I hf st hg
    obtain ⟨gfp, wr, n, Y, St, W, hst, hsub, _, h2⟩ := go X hP hw hK hc i pins s σ H I hf st (.inr hg)
    subst hP hw hK
    have e := h2 hg
    subst e
    refine W.stops s (fun s1 => Inv X pins σ H s1) E hst fun h' tk hk _ => ?_
    exact I.turnedL hk fun b hb => hf b (hsub b hb)
  self := self
theorem tup_ok {P : Program} {w : World} {H : Hp} {h : Heap} {T : Addr} {xs : List V} {us : List Value} (r : Vals xs us) (ht : h.IsTuple T us.toArray) (hz : xs.length ≤ sizeLine) : ObjOk P w (upd H T (.tup xs)) h T (.tup xs) := ⟨hz, us, r, ht⟩
/-! ### zip of two -/
def ItZ2 (K : PySem.W.Frag) (k1 : Bool) (a : Addr) (k2 : Bool) (b : Addr) : It :=
  ⟨fun i H => ∃ (xs ys : List V) (x y : V), SqK K k1 H a xs ∧ SqK K k2 H b ys ∧ xs[i]? = some x ∧ ys[i]? = some y,
    fun i H v H' => ∃ T x y, v = .ref T ∧ H T = none ∧ H' = upd H T (.tup [x, y]) ∧ (∀ xs, SqK K k1 H a xs → xs[i]? = some x) ∧ ∀ ys, SqK K k2 H b ys → ys[i]? = some y,
    fun i H => ∃ xs ys : List V, SqK K k1 H a xs ∧ SqK K k2 H b ys ∧ i = min xs.length ys.length⟩
theorem turn_z2 {P : Program} {w : World} {K : PySem.W.Frag} {elts : List Expr} {kk : Nat} {tpos : Pos} {k1 k2 : Bool} {a b z TI TO i1 i2 : Addr} (S : ZipSep2 z TI TO i1 i2 [i1, a] [i2, b]) (hia : a ≠ i1) (hib : b ≠ i2) :
    Turn P w K (.Tuple elts kk tpos) (ItZ2 K k1 a k2 b) [z, TI, TO, i1, i2] z (fun i h => IsZip h z TI TO .none ∧ IsTupOf2 h TI (.ref i1) (.ref i2) ∧ (∃ a1 a2, IsTupOf2 h TO a1 a2) ∧ ItK k1 h i1 a i ∧ ItK k2 h i2 b i) := by
  refine turn_goes (by simp) (fun i h st c hc => ?_) (fun i h h' st k => ?_) (fun X hP hw hK hc i pins s σ H I hf st hg => ?_) fun A i s Q E st h => wpAny_pyIter_zip st.1 h
  · obtain ⟨hz, hTI, ⟨x, y, hTO⟩, h1, h2⟩ := st
    have e' : c = z ∨ c = TI ∨ c = TO ∨ c = i1 ∨ c = i2 := by simpa using hc
    rcases e' with q | q | q | q | q
    · rw [q]; exact ⟨_, hz, fun v q => nomatch q⟩
    · rw [q]; exact ⟨_, hTI, fun v q => nomatch q⟩
    · rw [q]; exact ⟨_, hTO, fun v q => nomatch q⟩
    · rw [q]; exact h1.obj
    · rw [q]; exact h2.obj
  · obtain ⟨hz, hTI, ⟨x, y, hTO⟩, h1, h2⟩ := st
    exact ⟨k z (by simp) _ hz, k TI (by simp) _ hTI, ⟨x, y, k TO (by simp) _ hTO⟩, h1.at fun o q => k i1 (by simp) o q, h2.at fun o q => k i2 (by simp) o q⟩
  · subst hP hw hK
    obtain ⟨hz, hTI, hTO, h1, h2⟩ := st
    have src : ∃ xs ys, SqK X.K k1 H a xs ∧ SqK X.K k2 H b ys := by
      rcases hg with ⟨xs, ys, _, _, p, q, _⟩ | ⟨xs, ys, p, q, _⟩
      · exact ⟨xs, ys, p, q⟩
      · exact ⟨xs, ys, p, q⟩
    obtain ⟨xs, ys, sx, sy⟩ := src
    obtain ⟨its, rv, p1, z1, _⟩ := invK I sx
    obtain ⟨its2, rv2, p2, z2, _⟩ := invK I sy
    have hh : X.A.in1.handled = none := I.ok.hd hc
    have l1 := rv.length
    have l2 := rv2.length
    refine ⟨_, _, _, _, _, GoesN.zip2 S (drawsK hh k1 i1 a hia its.toArray) (drawsK hh k2 i2 b hib its2.toArray), ⟨hz, hTI, hTO, ⟨h1, p1⟩, ⟨h2, p2⟩⟩, fun c hc => ?_, fun hgo => ⟨?_, fun v h' hY st' hk => ?_⟩, fun hs => ?_⟩
    · have e' : c = z ∨ c = TO ∨ c = i1 ∨ c = i2 := by simpa using hc
      rcases e' with q | q | q | q <;> simp [q]
    · obtain ⟨xs', ys', x, y, p, q, e1, e2⟩ := hgo
      have E1 := invK_inj I p sx
      have E2 := invK_inj I q sy
      subst E1 E2
      have g1 : i < xs'.length := by
        rcases Nat.lt_or_ge i xs'.length with g | g
        · exact g
        · rw [List.getElem?_eq_none g] at e1; cases e1
      have g2 : i < ys'.length := by
        rcases Nat.lt_or_ge i ys'.length with g | g
        · exact g
        · rw [List.getElem?_eq_none g] at e2; cases e2
      simp only [List.size_toArray]
      omega
    · obtain ⟨T, u, v', rfl, hT, hu, hv, htup⟩ := hY
      obtain ⟨hz', hTI', hTO', ⟨h1', _⟩, ⟨h2', _⟩⟩ := st'
      refine ⟨⟨hz', hTI', hTO', h1', h2'⟩, ?_⟩
      obtain ⟨xs', ys', x, y, p, q, e1, e2⟩ := hgo
      have E1 := invK_inj I p sx
      have E2 := invK_inj I q sy
      subst E1 E2
      obtain ⟨u', hu', ru⟩ := rv.get e1
      obtain ⟨w', hw', rw'⟩ := rv2.get e2
      have eu : u = u' := by
        have : its[i]? = some u := by simpa using hu
        rw [hu'] at this; exact (Option.some.inj this).symm
      have ev : v' = w' := by
        have : its2[i]? = some v' := by simpa using hv
        rw [hw'] at this; exact (Option.some.inj this).symm
      subst eu ev
      refine ⟨T, .tup [x, y], rfl, hT, tup_ok (us := [u, v']) (.cons ru (.cons rw' .nil)) htup (by show 2 ≤ sizeLine; decide), T, x, y, rfl, I.hok.fresh hT, rfl, fun l hl => by rw [invK_inj I hl p]; exact e1, fun l hl => by rw [invK_inj I hl q]; exact e2⟩
    · obtain ⟨xs', ys', p, q, e⟩ := hs
      have E1 := invK_inj I p sx
      have E2 := invK_inj I q sy
      subst E1 E2
      simp only [List.size_toArray]
      omega
def iZ2 (K : PySem.W.Frag) (ta : TA) : TI := fun σ H R => ta σ H fun vs H1 => ∃ k1 k2 a b xs ys, vs = [.ref a, .ref b] ∧ SqK K k1 H1 a xs ∧ SqK K k2 H1 b ys ∧ R (ItZ2 K k1 a k2 b) H1
theorem pi_z2 {X : Cx} {e e2 : Expr} {ta : TA} {p pos tpos : Pos} {elts : List Expr} {kk : Nat} (hg : Gl X "zip") (hm : X.mg "zip" = none) (ha : PA X [e, e2] ta)
    (hs : starEach [e, e2] X.env = (false, eval e X.env) :: starEach [e2] X.env := by rfl) (hpl : (backTo pos (starEach [e2] X.env)).any (·.1) = false := by rfl) :
    PI X (.Tuple elts kk tpos) (.Call (.Name "zip" p) [e, e2] [] pos) (iZ2 X.K ta) := by
  refine ⟨fun pins s σ H R I h => ?_⟩
  refine Call_ (ld_blt I hg hm PyProof.Rows.boot_zip (PyProof.Rows.callWith_type1 (thn (ha.run pos pins s σ H _ I h) fun us s1 ⟨vs, H1, I1, r1, q1⟩ => ?_) hs hpl))
  obtain ⟨k1, k2, a, b, xs, ys, ex, hqx, hqy, q⟩ := q1
  subst ex
  obtain ⟨u1, u2, rfl, ra, rb⟩ := vals2 r1
  cases ra
  cases rb
  obtain ⟨its, rv, p1, _, la⟩ := invK I1 hqx
  obtain ⟨its2, rv2, p2, _, lb⟩ := invK I1 hqy
  refine zip_begins2 (beginsK k1 a its.toArray) (beginsK k2 b its2.toArray) p1 p2 fun h' hz hTI hTO h1 h2 hsz hk => wpAny_pyIter_zip hz ?_
  have I2 : Inv X pins σ H1 { s1 with heap := h' } := I1.kept (t' := s1.toks) hk
  refine ⟨s1.heap.objs.size + 4, [s1.heap.objs.size + 4, s1.heap.objs.size + 2, s1.heap.objs.size + 3, s1.heap.objs.size, s1.heap.objs.size + 1], _, _, H1, rfl, I2,
    turn_z2 (zip_sep2 (fp1 := [a]) (fp2 := [b]) (fun c hc => by rw [List.mem_singleton.mp hc]; exact la) (fun c hc => by rw [List.mem_singleton.mp hc]; exact lb)) (Nat.ne_of_lt la) (Nat.ne_of_lt (Nat.lt_succ_of_lt lb)), ⟨hz, hTI, ⟨_, _, hTO⟩, itK_new h1, itK_new h2⟩, fun c hcm => ?_, q⟩
  have hle : s1.heap.objs.size ≤ c := by
    have e' : c = s1.heap.objs.size + 4 ∨ c = s1.heap.objs.size + 2 ∨ c = s1.heap.objs.size + 3 ∨ c = s1.heap.objs.size ∨ c = s1.heap.objs.size + 1 := by simpa using hcm
    rcases e' with z | z | z | z | z
    · rw [z]; exact Nat.le_add_right _ _
    · rw [z]; exact Nat.le_add_right _ _
    · rw [z]; exact Nat.le_add_right _ _
    · rw [z]; exact Nat.le_refl _
    · rw [z]; exact Nat.le_add_right _ _
  exact I1.fpOk hle (I1.hok.fresh hle)
/-! ### zip of three -/
def ItZ3 (K : PySem.W.Frag) (k1 : Bool) (a : Addr) (k2 : Bool) (b : Addr) (k3 : Bool) (c : Addr) : It :=
  ⟨fun i H => ∃ (xs ys zs : List V) (x y z : V), SqK K k1 H a xs ∧ SqK K k2 H b ys ∧ SqK K k3 H c zs ∧ xs[i]? = some x ∧ ys[i]? = some y ∧ zs[i]? = some z,
    fun i H v H' => ∃ T x y z, v = .ref T ∧ H T = none ∧ H' = upd H T (.tup [x, y, z]) ∧ (∀ xs, SqK K k1 H a xs → xs[i]? = some x) ∧ (∀ ys, SqK K k2 H b ys → ys[i]? = some y) ∧ ∀ zs, SqK K k3 H c zs → zs[i]? = some z,
    fun i H => ∃ xs ys zs : List V, SqK K k1 H a xs ∧ SqK K k2 H b ys ∧ SqK K k3 H c zs ∧ i = min (min xs.length ys.length) zs.length⟩
theorem lt_of_get {α : Type} {l : List α} {i : Nat} {x : α} (e : l[i]? = some x) : i < l.length := by
  rcases Nat.lt_or_ge i l.length with g | g
  · exact g
  · rw [List.getElem?_eq_none g] at e; cases e
theorem same_get {its : List Value} {i : Nat} {u u' : Value} (h : its.toArray[i]? = some u) (h' : its[i]? = some u') : u = u' := by
  have : its[i]? = some u := by simpa using h
  rw [h'] at this; exact (Option.some.inj this).symm
theorem turn_z3 {P : Program} {w : World} {K : PySem.W.Frag} {elts : List Expr} {kk : Nat} {tpos : Pos} {k1 k2 k3 : Bool} {a b c z TI TO i1 i2 i3 : Addr} (S : ZipSep3 z TI TO i1 i2 i3 [i1, a] [i2, b] [i3, c]) (hia : a ≠ i1) (hib : b ≠ i2) (hic : c ≠ i3) :
    Turn P w K (.Tuple elts kk tpos) (ItZ3 K k1 a k2 b k3 c) [z, TI, TO, i1, i2, i3] z (fun i h => IsZip h z TI TO .none ∧ IsTupOf3 h TI (.ref i1) (.ref i2) (.ref i3) ∧ (∃ a1 a2 a3, IsTupOf3 h TO a1 a2 a3) ∧ ItK k1 h i1 a i ∧ ItK k2 h i2 b i ∧ ItK k3 h i3 c i) := by
  refine turn_goes (by simp) (fun i h st d hd => ?_) (fun i h h' st k => ?_) (fun X hP hw hK hc i pins s σ H I hf st hg => ?_) fun A i s Q E st h => wpAny_pyIter_zip st.1 h
  · obtain ⟨hz, hTI, ⟨x, y, u, hTO⟩, h1, h2, h3⟩ := st
    have e' : d = z ∨ d = TI ∨ d = TO ∨ d = i1 ∨ d = i2 ∨ d = i3 := by simpa using hd
    rcases e' with q | q | q | q | q | q
    · rw [q]; exact ⟨_, hz, fun v q => nomatch q⟩
    · rw [q]; exact ⟨_, hTI, fun v q => nomatch q⟩
    · rw [q]; exact ⟨_, hTO, fun v q => nomatch q⟩
    · rw [q]; exact h1.obj
    · rw [q]; exact h2.obj
    · rw [q]; exact h3.obj
  · obtain ⟨hz, hTI, ⟨x, y, u, hTO⟩, h1, h2, h3⟩ := st
    exact ⟨k z (by simp) _ hz, k TI (by simp) _ hTI, ⟨x, y, u, k TO (by simp) _ hTO⟩, h1.at fun o q => k i1 (by simp) o q, h2.at fun o q => k i2 (by simp) o q, h3.at fun o q => k i3 (by simp) o q⟩
  · subst hP hw hK
    obtain ⟨hz, hTI, hTO, h1, h2, h3⟩ := st
    have src : ∃ xs ys zs, SqK X.K k1 H a xs ∧ SqK X.K k2 H b ys ∧ SqK X.K k3 H c zs := by
      rcases hg with ⟨xs, ys, zs, _, _, _, p, q, r, _⟩ | ⟨xs, ys, zs, p, q, r, _⟩
      · exact ⟨xs, ys, zs, p, q, r⟩
      · exact ⟨xs, ys, zs, p, q, r⟩
    obtain ⟨xs, ys, zs, sx, sy, sz⟩ := src
    obtain ⟨its, rv, p1, z1, _⟩ := invK I sx
    obtain ⟨its2, rv2, p2, z2, _⟩ := invK I sy
    obtain ⟨its3, rv3, p3, z3, _⟩ := invK I sz
    have hh : X.A.in1.handled = none := I.ok.hd hc
    have l1 := rv.length
    have l2 := rv2.length
    have l3 := rv3.length
    refine ⟨_, _, _, _, _, GoesN.zip3 S (drawsK hh k1 i1 a hia its.toArray) (drawsK hh k2 i2 b hib its2.toArray) (drawsK hh k3 i3 c hic its3.toArray), ⟨hz, hTI, hTO, ⟨h1, p1⟩, ⟨h2, p2⟩, ⟨h3, p3⟩⟩, fun d hd => ?_, fun hgo => ⟨?_, fun v h' hY st' hk => ?_⟩, fun hs => ?_⟩
    · have e' : d = z ∨ d = TO ∨ d = i1 ∨ d = i2 ∨ d = i3 := by simpa using hd
      rcases e' with q | q | q | q | q <;> simp [q]
    · obtain ⟨xs', ys', zs', x, y, u, p, q, r, e1, e2, e3⟩ := hgo
      have E1 := invK_inj I p sx
      have E2 := invK_inj I q sy
      have E3 := invK_inj I r sz
      subst E1 E2 E3
      have g1 := lt_of_get e1
      have g2 := lt_of_get e2
      have g3 := lt_of_get e3
      simp only [List.size_toArray]
      omega
    · obtain ⟨T, u, v', y', rfl, hT, hu, hv, hy, htup⟩ := hY
      obtain ⟨hz', hTI', hTO', ⟨h1', _⟩, ⟨h2', _⟩, ⟨h3', _⟩⟩ := st'
      refine ⟨⟨hz', hTI', hTO', h1', h2', h3'⟩, ?_⟩
      obtain ⟨xs', ys', zs', x, y, z', p, q, r, e1, e2, e3⟩ := hgo
      have E1 := invK_inj I p sx
      have E2 := invK_inj I q sy
      have E3 := invK_inj I r sz
      subst E1 E2 E3
      obtain ⟨u', hu', ru⟩ := rv.get e1
      obtain ⟨w', hw', rw'⟩ := rv2.get e2
      obtain ⟨q', hq', rq⟩ := rv3.get e3
      have eu := same_get hu hu'
      have ev := same_get hv hw'
      have ey := same_get hy hq'
      subst eu ev ey
      refine ⟨T, .tup [x, y, z'], rfl, hT, tup_ok (us := [u, v', y']) (.cons ru (.cons rw' (.cons rq .nil))) htup (by show 3 ≤ sizeLine; decide), T, x, y, z', rfl, I.hok.fresh hT, rfl, fun l hl => by rw [invK_inj I hl p]; exact e1, fun l hl => by rw [invK_inj I hl q]; exact e2, fun l hl => by rw [invK_inj I hl r]; exact e3⟩
    · obtain ⟨xs', ys', zs', p, q, r, e⟩ := hs
      have E1 := invK_inj I p sx
      have E2 := invK_inj I q sy
      have E3 := invK_inj I r sz
      subst E1 E2 E3
      simp only [List.size_toArray]
      omega
def iZ3 (K : PySem.W.Frag) (ta : TA) : TI := fun σ H R => ta σ H fun vs H1 => ∃ k1 k2 k3 a b c xs ys zs, vs = [.ref a, .ref b, .ref c] ∧ SqK K k1 H1 a xs ∧ SqK K k2 H1 b ys ∧ SqK K k3 H1 c zs ∧ R (ItZ3 K k1 a k2 b k3 c) H1
theorem pi_z3 {X : Cx} {e e2 e3 : Expr} {ta : TA} {p pos tpos : Pos} {elts : List Expr} {kk : Nat} (hg : Gl X "zip") (hm : X.mg "zip" = none) (ha : PA X [e, e2, e3] ta)
    (hs : starEach [e, e2, e3] X.env = (false, eval e X.env) :: starEach [e2, e3] X.env := by rfl) (hpl : (backTo pos (starEach [e2, e3] X.env)).any (·.1) = false := by rfl) :
    PI X (.Tuple elts kk tpos) (.Call (.Name "zip" p) [e, e2, e3] [] pos) (iZ3 X.K ta) := by
  refine ⟨fun pins s σ H R I h => ?_⟩
  refine Call_ (ld_blt I hg hm PyProof.Rows.boot_zip (PyProof.Rows.callWith_type1 (thn (ha.run pos pins s σ H _ I h) fun us s1 ⟨vs, H1, I1, r1, q1⟩ => ?_) hs hpl))
  obtain ⟨k1, k2, k3, a, b, c, xs, ys, zs, ex, hqx, hqy, hqz, q⟩ := q1
  subst ex
  cases r1 with
  | cons ra r1 =>
  cases r1 with
  | cons rb r1 =>
  cases r1 with
  | cons rc r1 =>
  cases r1
  cases ra
  cases rb
  cases rc
  obtain ⟨its, rv, p1, _, la⟩ := invK I1 hqx
  obtain ⟨its2, rv2, p2, _, lb⟩ := invK I1 hqy
  obtain ⟨its3, rv3, p3, _, lc⟩ := invK I1 hqz
  refine zip_begins3 (beginsK k1 a its.toArray) (beginsK k2 b its2.toArray) (beginsK k3 c its3.toArray) p1 p2 p3 fun h' hz hTI hTO h1 h2 h3 hsz hk => wpAny_pyIter_zip hz ?_
  have I2 : Inv X pins σ H1 { s1 with heap := h' } := I1.kept (t' := s1.toks) hk
  have sp : ZipSep3 (s1.heap.objs.size + 5) (s1.heap.objs.size + 3) (s1.heap.objs.size + 4) s1.heap.objs.size (s1.heap.objs.size + 1) (s1.heap.objs.size + 2) [s1.heap.objs.size, a] [s1.heap.objs.size + 1, b] [s1.heap.objs.size + 2, c] :=
    zip_sep3 (fp1 := [a]) (fp2 := [b]) (fp3 := [c]) (fun d hd => by rw [List.mem_singleton.mp hd]; exact la) (fun d hd => by rw [List.mem_singleton.mp hd]; exact lb) (fun d hd => by rw [List.mem_singleton.mp hd]; exact lc)
  refine ⟨s1.heap.objs.size + 5, [s1.heap.objs.size + 5, s1.heap.objs.size + 3, s1.heap.objs.size + 4, s1.heap.objs.size, s1.heap.objs.size + 1, s1.heap.objs.size + 2], _, _, H1, rfl, I2,
    turn_z3 sp (Nat.ne_of_lt la) (Nat.ne_of_lt (Nat.lt_succ_of_lt lb)) (Nat.ne_of_lt (Nat.lt_succ_of_lt (Nat.lt_succ_of_lt lc))), ⟨hz, hTI, ⟨_, _, _, hTO⟩, itK_new h1, itK_new h2, itK_new h3⟩, fun d hdm => ?_, q⟩
  have hle : s1.heap.objs.size ≤ d := by
    have e' : d = s1.heap.objs.size + 5 ∨ d = s1.heap.objs.size + 3 ∨ d = s1.heap.objs.size + 4 ∨ d = s1.heap.objs.size ∨ d = s1.heap.objs.size + 1 ∨ d = s1.heap.objs.size + 2 := by simpa using hdm
    rcases e' with z | z | z | z | z | z
    · rw [z]; exact Nat.le_add_right _ _
    · rw [z]; exact Nat.le_add_right _ _
    · rw [z]; exact Nat.le_add_right _ _
    · rw [z]; exact Nat.le_refl _
    · rw [z]; exact Nat.le_add_right _ _
    · rw [z]; exact Nat.le_add_right _ _
  exact I1.fpOk hle (I1.hok.fresh hle)
/-! ### enumerate -/
set_option maxHeartbeats 1000000 in
theorem meets_enumerate_new1 {v : Value} {o : Obj} {H : Heap → Prop} (B : Begins v o H) :
    Meets (Builtin.«enumerate.__new__» ⟨[.type "enumerate", v], []⟩) (fun _ R s => H s.heap ∧
      R (.ok (.ret (.ref (s.heap.push o).objs.size))) { s with heap := (s.heap.push o).push { cls := .type "enumerate", data := .fields #[.none, .bool false, .ref s.heap.objs.size, rawInt 0, .none, .none] } }) :=
  .of_wp fun prog w A R s h => by
    obtain ⟨hp, g, d, tk, os⟩ := s; obtain ⟨h1, h⟩ := h
    have hsub := sub_enumerate
    have q1 : ∀ {A' : Around} {E : Value → Shared → Prop} {Q : Value → Shared → Prop}, Q (.ref hp.objs.size) ⟨hp.push o, g, d, tk, os⟩ → wpAny (model prog w) A' (pyIter v) Q E ⟨hp, g, d, tk, os⟩ :=
      fun q => B.iter prog w _ _ ⟨hp, g, d, tk, os⟩ _ h1 q
    wp_walk using q1
    refine wpAny_stack_any fun st => wpAny_pure ?_
    split
    · rename_i c _ _ _ _ _
      cases (c == Value.type "enumerate")
      · wp_walk using q1
        exact ⟨_, rfl, h⟩
      · wp_walk using q1
        exact ⟨_, rfl, h⟩
    · wp_walk using q1
      exact ⟨_, rfl, h⟩
theorem enum_begins1 {prog : Program} {w : World} {A : Around} {E : Value → Shared → Prop} {s : Shared} {v : Value} {o : Obj} {H : Heap → Prop} {Q : Value → Shared → Prop} (B : Begins v o H) (h1 : H s.heap)
    (h : ∀ h', IsEnum h' (s.heap.objs.size + 1) s.heap.objs.size 0 .none → h'.get? s.heap.objs.size = some o → h'.objs.size = s.heap.objs.size + 2 →
      (∀ b o, s.heap.get? b = some o → h'.get? b = some o) → Q (.ref (s.heap.objs.size + 1)) { s with heap := h' }) :
    wpAny (model prog w) A (call (.type "enumerate") [v]) Q E s := by
  refine callType_new F.called_enumerate (by decide) (F.typeCall_enumerate_1 _) (F.newCall_enumerate_1 _) (fun obj => F.args_object_init_2 obj _) F.entry_enumerate_new
    (meets_enumerate_new1 B) ⟨h1, ?_⟩
  have hz : (s.heap.push o).objs.size = s.heap.objs.size + 1 := Heap.size_push ..
  show _ ∧ _
  rw [hz]
  have he : IsEnum ((s.heap.push o).push { cls := .type "enumerate", data := .fields #[.none, .bool false, .ref s.heap.objs.size, rawInt 0, .none, .none] }) (s.heap.objs.size + 1) s.heap.objs.size 0 .none := by
    have := Heap.get?_push_size (s.heap.push o) (o := { cls := .type "enumerate", data := .fields #[.none, .bool false, .ref s.heap.objs.size, rawInt 0, .none, .none] }) rfl
    rw [hz] at this; exact this
  refine ⟨⟨_, he, rfl⟩, h _ he (Heap.get?_push_of_some _ (Heap.get?_push_size _ B.free)) (by rw [Heap.size_push, hz]) fun b o x => Heap.get?_push_of_some _ (Heap.get?_push_of_some _ x)⟩
def ItE (K : PySem.W.Frag) (k : Bool) (a : Addr) : It :=
  ⟨fun i H => ∃ (xs : List V) (x : V), SqK K k H a xs ∧ xs[i]? = some x,
    fun i H v H' => ∃ T x, v = .ref T ∧ H T = none ∧ H' = upd H T (.tup [.int (i : Nat), x]) ∧ ∀ xs, SqK K k H a xs → xs[i]? = some x,
    fun i H => ∃ xs : List V, SqK K k H a xs ∧ i = xs.length⟩
theorem turn_e {P : Program} {w : World} {K : PySem.W.Frag} {elts : List Expr} {kk : Nat} {tpos : Pos} {k : Bool} {a e it : Addr} (hei : e ≠ it) (hea : e ≠ a) (hia : a ≠ it) :
    Turn P w K (.Tuple elts kk tpos) (ItE K k a) [e, it] e (fun i h => (∃ old, IsEnum h e it ((0 : Int) + (i : Int)) old) ∧ ItK k h it a i) := by
  refine turn_goes (by simp) (fun i h st d hd => ?_) (fun i h h' st k => ?_) (fun X hP hw hK hc i pins s σ H I hf st hg => ?_) fun A i s Q E st h => let ⟨⟨_, he⟩, _⟩ := st; wpAny_pyIter_enum he h
  · obtain ⟨⟨old, he⟩, h1⟩ := st
    have e' : d = e ∨ d = it := by simpa using hd
    rcases e' with q | q
    · rw [q]; exact ⟨_, he, fun v q => nomatch q⟩
    · rw [q]; exact h1.obj
  · obtain ⟨⟨old, he⟩, h1⟩ := st
    exact ⟨⟨old, k e (by simp) _ he⟩, h1.at fun o q => k it (by simp) o q⟩
  · subst hP hw hK
    obtain ⟨he, h1⟩ := st
    have src : ∃ xs, SqK X.K k H a xs := by
      rcases hg with ⟨xs, _, p, _⟩ | ⟨xs, p, _⟩
      · exact ⟨xs, p⟩
      · exact ⟨xs, p⟩
    obtain ⟨xs, sx⟩ := src
    obtain ⟨its, rv, p1, z1, _⟩ := invK I sx
    have hh : X.A.in1.handled = none := I.ok.hd hc
    have l1 := rv.length
    refine ⟨_, _, _, _, _, GoesN.enumFrom 0 (drawsK hh k it a hia its.toArray) e hei (by simp [hei, hea]) (by simp), ⟨he, ⟨h1, p1⟩⟩, fun d hd => hd, fun hgo => ⟨?_, fun v h' hY st' hk => ?_⟩, fun hs => ?_⟩
    · obtain ⟨xs', x, p, e1⟩ := hgo
      have E1 := invK_inj I p sx
      subst E1
      have g1 := lt_of_get e1
      simp only [List.size_toArray]
      omega
    · obtain ⟨T, t, u, rfl, hT, hu, htup⟩ := hY
      obtain ⟨he', ⟨h1', _⟩⟩ := st'
      refine ⟨⟨he', h1'⟩, ?_⟩
      obtain ⟨xs', x, p, e1⟩ := hgo
      have E1 := invK_inj I p sx
      subst E1
      obtain ⟨u', hu', ru⟩ := rv.get e1
      have eu := same_get hu hu'
      subst eu
      refine ⟨T, .tup [.int (i : Nat), x], rfl, hT, tup_ok (us := [.int ((0 : Int) + (i : Int)) t, u]) (.cons ⟨t, by rw [Int.zero_add]⟩ (.cons ru .nil)) htup (by show 2 ≤ sizeLine; decide), T, x, rfl, I.hok.fresh hT, rfl, fun l hl => by rw [invK_inj I hl p]; exact e1⟩
    · obtain ⟨xs', p, e⟩ := hs
      have E1 := invK_inj I p sx
      subst E1
      simp only [List.size_toArray]
      omega
def iE (K : PySem.W.Frag) (ta : TA) : TI := fun σ H R => ta σ H fun vs H1 => ∃ k a xs, vs = [.ref a] ∧ SqK K k H1 a xs ∧ R (ItE K k a) H1
theorem pi_e {X : Cx} {e : Expr} {ta : TA} {p pos tpos : Pos} {elts : List Expr} {kk : Nat} (hg : Gl X "enumerate") (hm : X.mg "enumerate" = none) (ha : PA X [e] ta) (hs : starEach [e] X.env = [(false, eval e X.env)] := by rfl) :
    PI X (.Tuple elts kk tpos) (.Call (.Name "enumerate" p) [e] [] pos) (iE X.K ta) := by
  refine ⟨fun pins s σ H R I h => ?_⟩
  refine Call_ (ld_blt (u := .type "enumerate") I hg hm (by decide +kernel) (PyProof.Rows.callWith_type1 (thn (ha.run pos pins s σ H _ I h) fun us s1 ⟨vs, H1, I1, r1, q1⟩ => ?_) (by rw [hs]; rfl) rfl))
  obtain ⟨k, a, xs, ex, hqx, q⟩ := q1
  subst ex
  rw [Vals.ref1 r1]
  obtain ⟨its, rv, p1, _, la⟩ := invK I1 hqx
  refine enum_begins1 (beginsK k a its.toArray) p1 fun h' he h1 hsz hk => wpAny_pyIter_enum he ?_
  have I2 : Inv X pins σ H1 { s1 with heap := h' } := I1.kept (t' := s1.toks) hk
  refine ⟨s1.heap.objs.size + 1, [s1.heap.objs.size + 1, s1.heap.objs.size], _, _, H1, rfl, I2,
    turn_e (Nat.ne_of_gt (Nat.lt_succ_self _)) (Nat.ne_of_gt (Nat.lt_succ_of_lt la)) (Nat.ne_of_lt la), ⟨⟨_, he⟩, itK_new h1⟩, fun d hdm => ?_, q⟩
  have hle : s1.heap.objs.size ≤ d := by
    have e' : d = s1.heap.objs.size + 1 ∨ d = s1.heap.objs.size := by simpa using hdm
    rcases e' with z | z
    · rw [z]; exact Nat.le_add_right _ _
    · rw [z]; exact Nat.le_refl _
  exact I1.fpOk hle (I1.hok.fresh hle)
end Pl
namespace Pl
open PySem PySem.Spec PyProof.Rows L2
variable [TJ]
/-! ### ends -/
structure PEnds where
  nx : Ro → Prop
  rt : Cell → Ro → Prop
  bk : Ro → Prop := fun _ => False
  ct : Ro → Prop := fun _ => False
abbrev TSp := PEnds → Ro → Prop
structure ERel (K : PySem.W.Frag) (G F : Hp) (P : PEnds) (D : Ends) : Prop where
  nx : ∀ F' H' σ' ρ', Up G F F' → Sim K G F' H' σ' ρ' → P.nx ρ' → D.nx σ' H'
  rt : ∀ F' H' σ' ρ' v c, Up G F F' → Sim K G F' H' (σ' ++ [some v]) (ρ' ++ [some c]) → P.rt c ρ' → D.rt v H'
  bk : ∀ F' H' σ' ρ', Up G F F' → Sim K G F' H' σ' ρ' → P.bk ρ' → D.bk σ' H'
  ct : ∀ F' H' σ' ρ', Up G F F' → Sim K G F' H' σ' ρ' → P.ct ρ' → D.ct σ' H'
theorem ERel.mono {K : PySem.W.Frag} {G F F1 : Hp} {P : PEnds} {D : Ends} (e : ERel K G F P D) (u : Up G F F1) : ERel K G F1 P D :=
  ⟨fun F' H' σ' ρ' v => e.nx F' H' σ' ρ' (u.trans v), fun F' H' σ' ρ' x c v => e.rt F' H' σ' ρ' x c (u.trans v), fun F' H' σ' ρ' v => e.bk F' H' σ' ρ' (u.trans v), fun F' H' σ' ρ' v => e.ct F' H' σ' ρ' (u.trans v)⟩
def SndS (K : PySem.W.Frag) (t : TS) (T : TSp) : Prop := ∀ (G F H : Hp) (σ : L2.St) (ρ : Ro) (P : PEnds) (D : Ends), Sim K G F H σ ρ → T P ρ → ERel K G F P D → t D σ H
structure PPS (X : Cx) (st : Stmt) (t : TS) (T : TSp) : Prop where
  ps : PS X st t
  snd : SndS X.K t T
structure PPSs (X : Cx) (st : List Stmt) (t : TS) (T : TSp) : Prop where
  ps : PSs X st t
  snd : SndS X.K t T
section
variable {X : Cx} {st : Stmt} {rest : List Stmt} {t u : TS} {T U : TSp} {e : Expr} {te : TE} {Te : TEp} {Tc : TCp} {pos : Pos}
def pNext : TSp := fun P ρ => P.nx ρ
def pSeq (T U : TSp) : TSp := fun P ρ => T { P with nx := U P } ρ
theorem ppss_nil : PPSs X [] tNext pNext := ⟨pss_nil, fun G F H σ ρ P D S h r => r.nx F H σ ρ (.refl _ _) S h⟩
theorem ppss_one (h1 : PPS X st t T) : PPSs X [st] t T := ⟨pss_one h1.ps, h1.snd⟩
theorem ppss_cons (h1 : PPS X st t T) (h2 : PPSs X rest u U) : PPSs X (st :: rest) (tSeq t u) (pSeq T U) := ⟨pss_cons h1.ps h2.ps, fun G F H σ ρ P D S h r =>
  h1.snd G F H σ ρ _ _ S h ⟨fun F' H' σ' ρ' u S' q => h2.snd G F' H' σ' ρ' P D S' q (r.mono u), r.rt, r.bk, r.ct⟩⟩
theorem pps_pass : PPS X (.Pass pos) tNext pNext := ⟨ps_pass, fun G F H σ ρ P D S h r => r.nx F H σ ρ (.refl _ _) S h⟩
def pBreak : TSp := fun P ρ => P.bk ρ
def pCont : TSp := fun P ρ => P.ct ρ
theorem pps_break : PPS X (.Break pos) tBreak pBreak := ⟨ps_break, fun G F H σ ρ P D S h r => r.bk F H σ ρ (.refl _ _) S h⟩
theorem pps_continue : PPS X (.Continue pos) tCont pCont := ⟨ps_continue, fun G F H σ ρ P D S h r => r.ct F H σ ρ (.refl _ _) S h⟩
def pDrop (Te : TEp) : TSp := fun P ρ => Te ρ fun _ ρ1 => P.nx ρ1
theorem pps_expr (he : PPE X e te Te) (hs : swapsWith e none pos.line X.env = pure false := by rfl) : PPS X (.Expr e pos) (tDrop te) (pDrop Te) := ⟨ps_expr he.pe hs, fun G F H σ ρ P D S h r =>
  he.snd G F H σ ρ _ _ S h fun v d F' H' ρ' u S' _ q => r.nx F' H' σ ρ' u S' q⟩
def pRet (Tc : TCp) : TSp := fun P ρ => Tc ρ P.rt
theorem pps_ret (he : PPC X e te Tc) : PPS X (.Return (some e) pos) (tRet te) (pRet Tc) := ⟨ps_ret he.pe, fun G F H σ ρ P D S h r =>
  he.snd G F H σ ρ _ _ S h fun v c F' H' ρ' u S' q => r.rt F' H' σ ρ' v c u S' q⟩
def pRetN : TSp := fun P ρ => P.rt (.val .non) ρ
theorem pps_retN : PPS X (.Return none pos) tRetN pRetN := ⟨ps_retN, fun G F H σ ρ P D S h r => r.rt F H σ ρ _ _ (.refl _ _) (S.pushVal .non) h⟩
def pIfS (C : TTp) (T U : TSp) : TSp := fun P ρ => C ρ fun b ρ1 => if b = true then T P ρ1 else U P ρ1
theorem pps_if {c : Expr} {a b : List Stmt} {tc : TT} {C : TTp} (hc : PPT X c tc C) (ha : PPSs X a t T) (hb : PPSs X b u U) : PPS X (.If c a b pos) (tIfS tc t u) (pIfS C T U) := ⟨ps_if hc.pt ha.ps hb.ps, fun G F H σ ρ P D S h r =>
  hc.snd G F H σ ρ _ _ S h fun b F' H' ρ' u S' q => by
    cases b with
    | true => exact ite_ti (ha.snd G F' H' σ ρ' P D S' (ite_t q) (r.mono u))
    | false => exact ite_fi (hb.snd G F' H' σ ρ' P D S' (ite_f q) (r.mono u))⟩
def pNever : TSp := fun _ _ => False
theorem pps_never : PPS X st tNever pNever := ⟨ps_never, fun _ _ _ _ _ _ _ _ h _ => h.elim⟩
/-! ### targets -/
abbrev TGp := D → Ro → (Ro → Prop) → Prop
abbrev TGsp := List D → Ro → (Ro → Prop) → Prop
def SndG (K : PySem.W.Frag) (g : TG) (Gp : TGp) (is : List Nat) : Prop := ∀ (G F H : Hp) (σ : L2.St) (ρ : Ro) (Q : Ro → Prop) (R : L2.St → Hp → Prop) (v : V) (d : D), Sim K G F H σ ρ → Rep K F v d → Gp d ρ Q →
  (∀ F' H' σ' ρ', Up G F F' → Sim K G F' H' σ' ρ' → (∀ j, j ∉ is → σ'[j]? = σ[j]?) → σ'.length = σ.length → Q ρ' → R σ' H') → g v σ H R
def SndGs (K : PySem.W.Frag) (g : TGs) (Gp : TGsp) (is : List Nat) : Prop := ∀ (G F H : Hp) (σ : L2.St) (ρ : Ro) (Q : Ro → Prop) (R : L2.St → Hp → Prop) (vs : List V) (ds : List D), Sim K G F H σ ρ → Reps K F vs ds → Gp ds ρ Q →
  (∀ F' H' σ' ρ', Up G F F' → Sim K G F' H' σ' ρ' → (∀ j, j ∉ is → σ'[j]? = σ[j]?) → σ'.length = σ.length → Q ρ' → R σ' H') → g vs σ H R
structure PTg (X : Cx) (tg : Expr) (g : TG) (Gp : TGp) (is : List Nat) : Prop where
  pg : PG X tg g
  snd : SndG X.K g Gp is
structure PTgs (X : Cx) (tgs : List Expr) (g : TGs) (Gp : TGsp) (is : List Nat) : Prop where
  pg : PGs X tgs g
  snd : SndGs X.K g Gp is
def hName (i : Nat) : TGp := fun d ρ Q => Q (ρ.set i (some (.val d)))
theorem ptg_name {i : Nat} {x : Str} (hN : X.N.Nodup) (hi : X.N[i]? = some x := by rfl) (hx : Loc X.env.scope x := by first | exact Or.inl rfl | exact Or.inr rfl) (hf : X.fn x = true ∨ X.env.scope.names.lookup x = some .local := by first | exact .inl rfl | exact .inr rfl | assumption) : PTg X (.Name x pos) (gName i) (hName i) [i] :=
  ⟨pg_name hN hi hx hf, fun G F H σ ρ Q R v d S r h k => k F H _ _ (.refl _ _) (S.setVal i r) (fun j hj => List.getElem?_set_ne (fun z => hj (by simp [z]))) (by simp) h⟩
def hNil : TGsp := fun ds ρ Q => ds = [] ∧ Q ρ
def hCons (g : TGp) (gs : TGsp) : TGsp := fun ds ρ Q => match ds with | d :: r => g d ρ fun ρ' => gs r ρ' Q | [] => False
theorem ptgs_nil : PTgs X [] gNil hNil [] := ⟨pgs_nil, fun G F H σ ρ Q R vs ds S r h k => by
  obtain ⟨rfl, h⟩ := h
  cases r
  exact ⟨rfl, k F H σ ρ (.refl _ _) S (fun _ _ => rfl) rfl h⟩⟩
theorem ptgs_cons {e : Expr} {es : List Expr} {g : TG} {gs : TGs} {Gp : TGp} {Gs : TGsp} {is js : List Nat} (h1 : PTg X e g Gp is) (h2 : PTgs X es gs Gs js)
    (hs : (assignEach (e :: es) X.env).map (·.2) = assign e X.env :: (assignEach es X.env).map (·.2) := by rfl) : PTgs X (e :: es) (gCons g gs) (hCons Gp Gs) (is ++ js) := ⟨pgs_cons h1.pg h2.pg hs, fun G F H σ ρ Q R vs ds S r h k => by
  cases r with
  | nil => exact h.elim
  | cons r1 r2 => exact ⟨_, _, rfl, h1.snd G F H σ ρ _ _ _ _ S r1 h fun F1 H1 σ1 ρ1 u1 S1 o1 l1 q1 => h2.snd G F1 H1 σ1 ρ1 _ _ _ _ S1 (r2.mono u1.ex) q1 fun F2 H2 σ2 ρ2 u2 S2 o2 l2 q2 =>
      k F2 H2 σ2 ρ2 (u1.trans u2) S2 (fun j hj => (o2 j fun z => hj (List.mem_append_right _ z)).trans (o1 j fun z => hj (List.mem_append_left _ z))) (l2.trans l1) q2⟩⟩
/-- unpacking a tuple or a list -/
def gAny (K : PySem.W.Frag) (n : Nat) (t : TGs) : TG := fun v σ H Q => gTup K n t v σ H Q ∨ gUnl K n t v σ H Q
def hTup (n : Nat) (g : TGsp) : TGp := fun d ρ Q => match d with
  | .tup ds => ds.length = n ∧ g ds ρ Q
  | .lst ds => ds.length = n ∧ g ds ρ Q
  | _ => False
theorem ptg_tup {es : List Expr} {k : Nat} {t : TGs} {Gp : TGsp} {n : Nat} {is : List Nat} (hc : X.calm = true) (h : PTgs X es t Gp is)
    (hn : (assignEach es X.env).length = n := by rfl) (hst : (assignEach es X.env).findIdx? (·.1) = none := by rfl) : PTg X (.Tuple es k pos) (gAny X.K n t) (hTup n Gp) is :=
  ⟨⟨fun pins s σ H v u Q I r hw => hw.elim (fun hw => (pg_tup hc h.pg hn hst).run pins s σ H v u Q I r hw) fun hw => (pg_unl hc h.pg hn hst).run pins s σ H v u Q I r hw⟩, fun G F H σ ρ Q R v d S r hh k => by
    cases r with
    | tup e r => exact .inl ⟨_, _, rfl, SqT.of (S.hF _ _ e), by rw [r.length]; exact hh.1, h.snd G F H σ ρ Q R _ _ S r hh.2 k⟩
    | lst e r => exact .inr ⟨_, _, rfl, SqL.of (S.hF _ _ e), by rw [r.length]; exact hh.1, h.snd G F H σ ρ Q R _ _ S r hh.2 k⟩
    | _ => exact hh.elim⟩
/-! ### assignments -/
def pSet (i : Nat) (Tc : TCp) : TSp := fun P ρ => Tc ρ fun c ρ1 => P.nx (ρ1.set i (some c))
theorem snd_set {K : PySem.W.Frag} {i : Nat} {te : TE} {Tc : TCp} (h : SndC K te Tc) : SndS K (tAsg te (gName i)) (pSet i Tc) := fun G F H σ ρ P D S hT r =>
  h G F H σ ρ _ _ S hT fun v c F' H' ρ' u S' q => r.nx F' H' _ _ u (S'.store i) q
theorem pps_set {i : Nat} {x : Str} {pos' : Pos} (hN : X.N.Nodup) (he : PPC X e te Tc) (hi : X.N[i]? = some x := by rfl) (hx : Loc X.env.scope x := by first | exact Or.inl rfl | exact Or.inr rfl) (hs : swapsWith e (some (.Name x pos')) pos.line X.env = pure false := by rfl) (hf : X.fn x = true ∨ X.env.scope.names.lookup x = some .local := by first | exact .inl rfl | exact .inr rfl | assumption) :
    PPS X (.Assign [.Name x pos'] e pos) (tAsg te (gName i)) (pSet i Tc) := ⟨ps_set hN hi hx he.pe hs hf, snd_set he.snd⟩
def pAsg (Te : TEp) (g : TGp) : TSp := fun P ρ => Te ρ fun d ρ1 => g d ρ1 P.nx
theorem pps_asg {tg : Expr} {g : TG} {Gp : TGp} {is : List Nat} (he : PPE X e te Te) (hg : PTg X tg g Gp is) (hs : swapsWithSole [tg] e pos.line X.env = pure false := by rfl) (hw : swappedStores [tg] e X.env = pure none := by rfl)
    (h1 : (assignEach [tg] X.env).map (·.2) = [assign tg X.env] := by rfl) : PPS X (.Assign [tg] e pos) (tAsg te g) (pAsg Te Gp) := ⟨ps_asg he.pe hg.pg hs hw h1, fun G F H σ ρ P D S hT r =>
  he.snd G F H σ ρ _ _ S hT fun v d F' H' ρ' u S' rv q => hg.snd G F' H' σ ρ' _ _ v d S' rv q fun F2 H2 σ2 ρ2 u2 S2 _ _ q2 => r.nx F2 H2 σ2 ρ2 (u.trans u2) S2 q2⟩
def pPar (i j : Nat) (T : TAp) : TSp := fun P ρ => T ρ fun ds ρ1 => match ds with | [x, y] => P.nx ((ρ1.set i (some (.val x))).set j (some (.val y))) | _ => False
theorem pps_par {i j : Nat} {x y : Str} {a b : Expr} {ta : TA} {TA' : TAp} {px py pt : Pos} {kt k2 pt2} (hc : X.calm = true) (hN : X.N.Nodup) (ha : PPA X [a, b] ta TA') (hi : X.N[i]? = some x := by rfl) (hj : X.N[j]? = some y := by rfl) (hij : i ≠ j := by decide)
    (hx : X.env.scope.names.lookup x = some .local := by rfl) (hy : X.env.scope.names.lookup y = some .local := by rfl)
    (hw : swappedStores [.Tuple [.Name x px, .Name y py] kt pt] (.Tuple [a, b] k2 pt2) X.env = pure (some [x, y]) := by rfl)
    (hs : swapsWithSole [.Tuple [.Name x px, .Name y py] kt pt] (.Tuple [a, b] k2 pt2) pos.line X.env = pure false := by rfl) :
    PPS X (.Assign [.Tuple [.Name x px, .Name y py] kt pt] (.Tuple [a, b] k2 pt2) pos) (tPar i j ta) (pPar i j TA') := ⟨ps_par hc hN hi hj hij hx hy ha.pa hw hs, fun G F H σ ρ P D S hT r =>
  ha.snd G F H σ ρ _ _ S hT fun vs ds F' H' ρ' u S' rv q => by
    match rv, q with
    | .cons (d := d1) r1 (.cons (d := d2) r2 .nil), q => exact ⟨_, _, rfl, r.nx F' H' _ _ u ((S'.setVal i r1).setVal j r2) q⟩
    | .nil, q => exact q.elim
    | .cons _ .nil, q => exact q.elim
    | .cons _ (.cons _ (.cons _ _)), q => exact q.elim⟩
def pPar3 (i j l : Nat) (T : TAp) : TSp := fun P ρ => T ρ fun ds ρ1 => match ds with | [x, y, z] => P.nx (((ρ1.set i (some (.val x))).set j (some (.val y))).set l (some (.val z))) | _ => False
theorem pps_par3 {i j l : Nat} {x y z : Str} {a b c : Expr} {ta : TA} {TA' : TAp} {px py pz pt : Pos} {kt k2 pt2} (hc : X.calm = true) (hN : X.N.Nodup) (ha : PPA X [a, b, c] ta TA') (hi : X.N[i]? = some x := by rfl) (hj : X.N[j]? = some y := by rfl) (hl : X.N[l]? = some z := by rfl) (hij : i ≠ j := by decide) (hil : i ≠ l := by decide) (hjl : j ≠ l := by decide)
    (hx : X.env.scope.names.lookup x = some .local := by rfl) (hy : X.env.scope.names.lookup y = some .local := by rfl) (hz : X.env.scope.names.lookup z = some .local := by rfl)
    (hw : swappedStores [.Tuple [.Name x px, .Name y py, .Name z pz] kt pt] (.Tuple [a, b, c] k2 pt2) X.env = pure (some [x, y, z]) := by rfl)
    (hs : swapsWithSole [.Tuple [.Name x px, .Name y py, .Name z pz] kt pt] (.Tuple [a, b, c] k2 pt2) pos.line X.env = pure false := by rfl) :
    PPS X (.Assign [.Tuple [.Name x px, .Name y py, .Name z pz] kt pt] (.Tuple [a, b, c] k2 pt2) pos) (tPar3 i j l ta) (pPar3 i j l TA') := ⟨ps_par3 hc hN hi hj hl hij hil hjl hx hy hz ha.pa hw hs, fun G F H σ ρ P D S hT r =>
  ha.snd G F H σ ρ _ _ S hT fun vs ds F' H' ρ' u S' rv q => by
    match rv, q with
    | .cons r1 (.cons r2 (.cons r3 .nil)), q => exact ⟨_, _, _, rfl, r.nx F' H' _ _ u (((S'.setVal i r1).setVal j r2).setVal l r3) q⟩
    | .nil, q => exact q.elim
    | .cons _ .nil, q => exact q.elim
    | .cons _ (.cons _ .nil), q => exact q.elim
    | .cons _ (.cons _ (.cons _ (.cons _ _))), q => exact q.elim⟩
end
/-! ### what is walked -/
def ItRep (K : PySem.W.Frag) (J : It) (F : Hp) (ds : List D) : Prop := ∀ F' H, Same F F' → Same F' H →
  (∀ (i : Nat) (d : D), ds[i]? = some d → J.go i H ∧ ∀ x H', J.yld i H x H' → ∃ F'', Res K F' H x d F'' H') ∧ J.stop ds.length H
theorem ItRep.mono {K : PySem.W.Frag} {J : It} {F F1 : Hp} {ds : List D} (h : ItRep K J F ds) (e : Same F F1) : ItRep K J F1 ds := fun F' H e1 e2 => h F' H (e.trans e1) e2
def SndI (K : PySem.W.Frag) (wi : TI) (T : TAp) : Prop := ∀ (G F H : Hp) (σ : L2.St) (ρ : Ro) (Q : List D → Ro → Prop) (R : It → Hp → Prop), Sim K G F H σ ρ → T ρ Q →
  (∀ J ds F' H' ρ', Up G F F' → Sim K G F' H' σ ρ' → ItRep K J F' ds → Q ds ρ' → R J H') → wi σ H R
structure PPI (X : Cx) (tg iter : Expr) (wi : TI) (T : TAp) : Prop where
  pi : PI X tg iter wi
  snd : SndI X.K wi T
theorem itrep_list {K : PySem.W.Frag} {F : Hp} {a : Addr} {vs : List V} {ds : List D} (h : F a = some (.lst vs)) (r : Reps K F vs ds) : ItRep K (Itl K a) F ds := fun F' H e1 e2 => by
  have hH : H a = some (.lst vs) := e2 _ _ (e1 _ _ h)
  refine ⟨fun i d hd => ?_, ⟨vs, SqL.of hH, by rw [r.length]; exact Nat.le_refl _⟩⟩
  obtain ⟨v, hv, rv⟩ := r.get hd
  refine ⟨⟨vs, v, SqL.of hH, hv⟩, fun x H' y => ?_⟩
  obtain ⟨rfl, y⟩ := y
  have e : x = v := Option.some.inj ((y vs (SqL.of hH)).symm.trans hv)
  subst e
  exact ⟨F', .old (rv.mono e1)⟩
theorem itrep_tup {K : PySem.W.Frag} {F : Hp} {a : Addr} {vs : List V} {ds : List D} (h : F a = some (.tup vs)) (r : Reps K F vs ds) : ItRep K (Itt K a) F ds := fun F' H e1 e2 => by
  have hH : H a = some (.tup vs) := e2 _ _ (e1 _ _ h)
  refine ⟨fun i d hd => ?_, ⟨vs, SqT.of hH, by rw [r.length]; exact Nat.le_refl _⟩⟩
  obtain ⟨v, hv, rv⟩ := r.get hd
  refine ⟨⟨vs, v, SqT.of hH, hv⟩, fun x H' y => ?_⟩
  obtain ⟨rfl, y⟩ := y
  have e : x = v := Option.some.inj ((y vs (SqT.of hH)).symm.trans hv)
  subst e
  exact ⟨F', .old (rv.mono e1)⟩
/-- what a value is as a row of things -/
def asSeq (d : D) (k : List D → Prop) : Prop := match d with
  | .lst xs => k xs
  | .tup xs => k xs
  | _ => False
theorem Rep.seq {K : PySem.W.Frag} {F : Hp} {v : V} {d : D} {k : List D → Prop} (r : Rep K F v d) (h : asSeq d k) : ∃ (a : Addr) (q : Bool) (vs : List V) (ds : List D), v = .ref a ∧ F a = some (if q = true then .lst vs else .tup vs) ∧ Reps K F vs ds ∧ k ds := by
  cases r with
  | lst e r => exact ⟨_, true, _, _, rfl, e, r, h⟩
  | tup e r => exact ⟨_, false, _, _, rfl, e, r, h⟩
  | _ => exact h.elim
theorem sqk_of {K : PySem.W.Frag} {H : Hp} {a : Addr} {q : Bool} {vs : List V} (h : H a = some (if q = true then HO.lst vs else .tup vs)) : SqK K q H a vs := by
  cases q with
  | true => exact SqL.of h
  | false => exact SqT.of h
section
variable {X : Cx} {tg : Expr} {l : Expr} {tl : TE} {Tl : TEp} {pos : Pos}
def iAny (K : PySem.W.Frag) (tl : TE) : TI := fun σ H R => tl σ H fun x H1 => ∃ a, x = .ref a ∧ (((∃ xs, SqL K H1 a xs) ∧ R (Itl K a) H1) ∨ ((∃ xs, SqT K H1 a xs) ∧ R (Itt K a) H1))
theorem pi_any (hl : PE X l tl) : PI X tg l (iAny X.K tl) := by
  refine ⟨fun pins s σ H R I h => ?_⟩
  refine thn (hl.run pins s σ H _ I h) fun v s1 ⟨x, H1, I1, r1, q1⟩ => ?_
  obtain ⟨a, e, q1⟩ := q1
  subst e
  cases r1
  rcases q1 with ⟨⟨xs, hq⟩, q⟩ | ⟨⟨xs, hq⟩, q⟩
  · obtain ⟨its, rv, p, hz⟩ := I1.list hq
    refine wpAny_pyIter_list p.isList ?_
    refine ⟨s1.heap.objs.size, [s1.heap.objs.size], _, _, H1, rfl, I1.kept (t' := s1.toks) fun b o e => Heap.get?_push_of_some _ e, turn_list a _, ⟨_, Heap.get?_push_size _ rfl, rfl, rfl⟩, fun b hb => ?_, q⟩
    have e : b = s1.heap.objs.size := by simpa using hb
    subst e
    exact I1.fpOk (Nat.le_refl _) (I1.hok.fresh (Nat.le_refl _))
  · obtain ⟨its, rv, p, hz⟩ := I1.tuple hq
    refine wpAny_pyIter_tuple (show s1.heap.IsTuple a its.toArray from p) ?_
    refine ⟨s1.heap.objs.size, [s1.heap.objs.size], _, _, H1, rfl, I1.kept (t' := s1.toks) fun b o e => Heap.get?_push_of_some _ e, turn_tuple a _, ⟨_, Heap.get?_push_size _ rfl, rfl, rfl⟩, fun b hb => ?_, q⟩
    have e : b = s1.heap.objs.size := by simpa using hb
    subst e
    exact I1.fpOk (Nat.le_refl _) (I1.hok.fresh (Nat.le_refl _))
def jSeq (Tl : TEp) : TAp := fun ρ Q => Tl ρ fun x ρ1 => asSeq x fun xs => Q xs ρ1
theorem ppi_seq (hl : PPE X l tl Tl) : PPI X tg l (iAny X.K tl) (jSeq Tl) := ⟨pi_any hl.pe, fun G F H σ ρ Q R S h k =>
  hl.snd G F H σ ρ _ _ S h fun v d F' H' ρ' u S' rv q => by
    cases rv with
    | lst e r => exact ⟨_, rfl, .inl ⟨⟨_, SqL.of (S'.hF _ _ e)⟩, k _ _ F' H' ρ' u S' (itrep_list e r) q⟩⟩
    | tup e r => exact ⟨_, rfl, .inr ⟨⟨_, SqT.of (S'.hF _ _ e)⟩, k _ _ F' H' ρ' u S' (itrep_tup e r) q⟩⟩
    | _ => exact q.elim⟩
def rangeD (lo : Int) (n : Nat) : List D := (List.range n).map fun (i : Nat) => .int (lo + (i : Int))
theorem itrep_range {K : PySem.W.Frag} {F : Hp} (lo : Int) (n : Nat) : ItRep K (Itr lo n) F (rangeD lo n) := fun F' H e1 e2 => by
  refine ⟨fun i d hd => ?_, ?_⟩
  · have hi : i < n := by have := lt_of_get hd; simpa [rangeD] using this
    refine ⟨hi, fun x H' y => ?_⟩
    obtain ⟨rfl, rfl⟩ := y
    have e : d = .int (lo + i) := by
      unfold rangeD at hd
      rw [List.getElem?_map, List.getElem?_range hi] at hd
      exact (Option.some.inj hd).symm
    subst e
    exact ⟨F', .old (.int _)⟩
  · show n ≤ (rangeD lo n).length
    simp [rangeD]
def jRng1 (T : TAp) : TAp := fun ρ Q => T ρ fun ds ρ1 => match ds with | [.int j] => -(2 ^ 62) ≤ j ∧ j < 2 ^ 62 ∧ Q (rangeD 0 j.toNat) ρ1 | _ => False
theorem Reps.int1 {K : PySem.W.Frag} {F : Hp} {vs : List V} {j : Int} (r : Reps K F vs [.int j]) : vs = [.int j] := by
  cases r with
  | cons h t => cases h; cases t; rfl
theorem Reps.int2 {K : PySem.W.Frag} {F : Hp} {vs : List V} {i j : Int} (r : Reps K F vs [.int i, .int j]) : vs = [.int i, .int j] := by
  cases r with
  | cons h t => cases h; rw [t.int1]
theorem ppi_range1 {a : Expr} {ta : TA} {TA' : TAp} {p : Pos} (hg : Gl X "range") (hm : X.mg "range" = none) (ha : PPA X [a] ta TA') (hs : starEach [a] X.env = [(false, eval a X.env)] := by rfl) : PPI X tg (.Call (.Name "range" p) [a] [] pos) (iRng1 ta) (jRng1 TA') := ⟨pi_range1 hg hm ha.pa hs, fun G F H σ ρ Q R S h k =>
  ha.snd G F H σ ρ _ _ S h fun vs ds F' H' ρ' u S' rv q => by
    match ds, rv, q with
    | [.int j], rv, q => exact ⟨j, rv.int1, q.1, q.2.1, k _ _ F' H' ρ' u S' (itrep_range 0 _) q.2.2⟩⟩
def jRng2 (T : TAp) : TAp := fun ρ Q => T ρ fun ds ρ1 => match ds with | [.int i, .int j] => (-(2 ^ 62) ≤ i ∧ i < 2 ^ 62 ∧ -(2 ^ 62) ≤ j ∧ j < 2 ^ 62) ∧ Q (rangeD i (j - i).toNat) ρ1 | _ => False
theorem ppi_range2 {a b : Expr} {ta : TA} {TA' : TAp} {p : Pos} (hg : Gl X "range") (hm : X.mg "range" = none) (ha : PPA X [a, b] ta TA') (hs : starEach [a, b] X.env = [(false, eval a X.env), (false, eval b X.env)] := by rfl) (hs2 : starEach [b] X.env = [(false, eval b X.env)] := by rfl) : PPI X tg (.Call (.Name "range" p) [a, b] [] pos) (iRng2 ta) (jRng2 TA') := ⟨pi_range2 hg hm ha.pa hs hs2, fun G F H σ ρ Q R S h k =>
  ha.snd G F H σ ρ _ _ S h fun vs ds F' H' ρ' u S' rv q => by
    match ds, rv, q with
    | [.int i, .int j], rv, q => exact ⟨i, j, rv.int2, q.1, k _ _ F' H' ρ' u S' (itrep_range i _) q.2⟩⟩
theorem get_zipWith {α β γ : Type} {f : α → β → γ} {xs : List α} {ys : List β} {i : Nat} {z : γ} (h : (List.zipWith f xs ys)[i]? = some z) : ∃ x y, xs[i]? = some x ∧ ys[i]? = some y ∧ z = f x y := by
  rw [List.getElem?_zipWith] at h
  cases e1 : xs[i]? with
  | none => rw [e1] at h; simp at h
  | some x =>
    cases e2 : ys[i]? with
    | none => rw [e1, e2] at h; simp at h
    | some y => rw [e1, e2] at h; exact ⟨x, y, rfl, rfl, by simpa using h.symm⟩
def zipD (xs ys : List D) : List D := List.zipWith (fun x y => .tup [x, y]) xs ys
theorem itrep_z2 {K : PySem.W.Frag} {F : Hp} {k1 k2 : Bool} {a b : Addr} {vs ws : List V} {xs ys : List D} (h1 : F a = some (if k1 = true then .lst vs else .tup vs)) (h2 : F b = some (if k2 = true then .lst ws else .tup ws)) (r1 : Reps K F vs xs) (r2 : Reps K F ws ys) : ItRep K (ItZ2 K k1 a k2 b) F (zipD xs ys) := fun F' H e1 e2 => by
  have s1 : SqK K k1 H a vs := sqk_of (e2 _ _ (e1 _ _ h1))
  have s2 : SqK K k2 H b ws := sqk_of (e2 _ _ (e1 _ _ h2))
  refine ⟨fun i d hd => ?_, ⟨vs, ws, s1, s2, by simp [zipD, r1.length, r2.length]⟩⟩
  obtain ⟨x, y, hx, hy, rfl⟩ := get_zipWith hd
  obtain ⟨v, hv, rv⟩ := r1.get hx
  obtain ⟨w, hw, rw'⟩ := r2.get hy
  refine ⟨⟨vs, ws, v, w, s1, s2, hv, hw⟩, fun z H' q => ?_⟩
  obtain ⟨T, v', w', rfl, hT, rfl, f1, f2⟩ := q
  have ev : v' = v := Option.some.inj ((f1 _ s1).symm.trans hv)
  have ew : w' = w := Option.some.inj ((f2 _ s2).symm.trans hw)
  subst ev ew
  have hn : F' T = none := e2.free hT
  exact ⟨_, .new hT (.tup upd_same (.cons ((rv.mono e1).mono (same_new hn)) (.cons ((rw'.mono e1).mono (same_new hn)) .nil)))⟩
def jZ2 (T : TAp) : TAp := fun ρ Q => T ρ fun ds ρ1 => match ds with | [x, y] => asSeq x fun xs => asSeq y fun ys => Q (zipD xs ys) ρ1 | _ => False
theorem ppi_z2 {e e2 : Expr} {ta : TA} {TA' : TAp} {p tpos : Pos} {elts : List Expr} {kk : Nat} (hg : Gl X "zip") (hm : X.mg "zip" = none) (ha : PPA X [e, e2] ta TA')
    (hs : starEach [e, e2] X.env = (false, eval e X.env) :: starEach [e2] X.env := by rfl) (hpl : (backTo pos (starEach [e2] X.env)).any (·.1) = false := by rfl) :
    PPI X (.Tuple elts kk tpos) (.Call (.Name "zip" p) [e, e2] [] pos) (iZ2 X.K ta) (jZ2 TA') := ⟨pi_z2 hg hm ha.pa hs hpl, fun G F H σ ρ Q R S h k =>
  ha.snd G F H σ ρ _ _ S h fun vs ds F' H' ρ' u S' rv q => by
    match ds, rv, q with
    | [x, y], .cons rx (.cons ry .nil), q =>
      obtain ⟨a, k1, ws, xs, rfl, h1, r1, q⟩ := rx.seq q
      obtain ⟨b, k2, zs, ys, rfl, h2, r2, q⟩ := ry.seq q
      exact ⟨k1, k2, a, b, ws, zs, rfl, sqk_of (S'.hF _ _ h1), sqk_of (S'.hF _ _ h2), k _ _ F' H' ρ' u S' (itrep_z2 h1 h2 r1 r2) q⟩⟩
def zip3D : List D → List D → List D → List D
  | x :: xs, y :: ys, z :: zs => .tup [x, y, z] :: zip3D xs ys zs
  | _, _, _ => []
theorem zip3D_get : ∀ {xs ys zs : List D} {i : Nat} {d : D}, (zip3D xs ys zs)[i]? = some d → ∃ x y z, xs[i]? = some x ∧ ys[i]? = some y ∧ zs[i]? = some z ∧ d = .tup [x, y, z]
  | x :: xs, y :: ys, z :: zs, 0, d, h => ⟨x, y, z, rfl, rfl, rfl, (Option.some.inj h).symm⟩
  | x :: xs, y :: ys, z :: zs, i + 1, d, h => by
    obtain ⟨a, b, c, h1, h2, h3, h4⟩ := zip3D_get (xs := xs) (ys := ys) (zs := zs) (i := i) (d := d) h
    exact ⟨a, b, c, h1, h2, h3, h4⟩
  | [], _, _, _, _, h => by simp [zip3D] at h
  | _ :: _, [], _, _, _, h => by simp [zip3D] at h
  | _ :: _, _ :: _, [], _, _, h => by simp [zip3D] at h
theorem zip3D_len : ∀ (xs ys zs : List D), (zip3D xs ys zs).length = min (min xs.length ys.length) zs.length
  | x :: xs, y :: ys, z :: zs => by simp [zip3D, zip3D_len xs ys zs]
  | [], _, _ => by simp [zip3D]
  | _ :: _, [], _ => by simp [zip3D]
  | _ :: _, _ :: _, [] => by simp [zip3D]
theorem itrep_z3 {K : PySem.W.Frag} {F : Hp} {k1 k2 k3 : Bool} {a b c : Addr} {vs ws us : List V} {xs ys zs : List D} (h1 : F a = some (if k1 = true then .lst vs else .tup vs)) (h2 : F b = some (if k2 = true then .lst ws else .tup ws)) (h3 : F c = some (if k3 = true then .lst us else .tup us)) (r1 : Reps K F vs xs) (r2 : Reps K F ws ys) (r3 : Reps K F us zs) : ItRep K (ItZ3 K k1 a k2 b k3 c) F (zip3D xs ys zs) := fun F' H e1 e2 => by
  have s1 : SqK K k1 H a vs := sqk_of (e2 _ _ (e1 _ _ h1))
  have s2 : SqK K k2 H b ws := sqk_of (e2 _ _ (e1 _ _ h2))
  have s3 : SqK K k3 H c us := sqk_of (e2 _ _ (e1 _ _ h3))
  refine ⟨fun i d hd => ?_, ⟨vs, ws, us, s1, s2, s3, by rw [zip3D_len, r1.length, r2.length, r3.length]⟩⟩
  obtain ⟨x, y, z, hx, hy, hz, rfl⟩ := zip3D_get hd
  obtain ⟨v, hv, rv⟩ := r1.get hx
  obtain ⟨w, hw, rw'⟩ := r2.get hy
  obtain ⟨t, ht, rt⟩ := r3.get hz
  refine ⟨⟨vs, ws, us, v, w, t, s1, s2, s3, hv, hw, ht⟩, fun z H' q => ?_⟩
  obtain ⟨T, v', w', t', rfl, hT, rfl, f1, f2, f3⟩ := q
  have ev : v' = v := Option.some.inj ((f1 _ s1).symm.trans hv)
  have ew : w' = w := Option.some.inj ((f2 _ s2).symm.trans hw)
  have et : t' = t := Option.some.inj ((f3 _ s3).symm.trans ht)
  subst ev ew et
  have hn : F' T = none := e2.free hT
  exact ⟨_, .new hT (.tup upd_same (.cons ((rv.mono e1).mono (same_new hn)) (.cons ((rw'.mono e1).mono (same_new hn)) (.cons ((rt.mono e1).mono (same_new hn)) .nil))))⟩
def jZ3 (T : TAp) : TAp := fun ρ Q => T ρ fun ds ρ1 => match ds with | [x, y, z] => asSeq x fun xs => asSeq y fun ys => asSeq z fun zs => Q (zip3D xs ys zs) ρ1 | _ => False
theorem ppi_z3 {e e2 e3 : Expr} {ta : TA} {TA' : TAp} {p tpos : Pos} {elts : List Expr} {kk : Nat} (hg : Gl X "zip") (hm : X.mg "zip" = none) (ha : PPA X [e, e2, e3] ta TA')
    (hs : starEach [e, e2, e3] X.env = (false, eval e X.env) :: starEach [e2, e3] X.env := by rfl) (hpl : (backTo pos (starEach [e2, e3] X.env)).any (·.1) = false := by rfl) :
    PPI X (.Tuple elts kk tpos) (.Call (.Name "zip" p) [e, e2, e3] [] pos) (iZ3 X.K ta) (jZ3 TA') := ⟨pi_z3 hg hm ha.pa hs hpl, fun G F H σ ρ Q R S h k =>
  ha.snd G F H σ ρ _ _ S h fun vs ds F' H' ρ' u S' rv q => by
    match ds, rv, q with
    | [x, y, z], .cons rx (.cons ry (.cons rz .nil)), q =>
      obtain ⟨a, k1, ws, xs, rfl, h1, r1, q⟩ := rx.seq q
      obtain ⟨b, k2, zs, ys, rfl, h2, r2, q⟩ := ry.seq q
      obtain ⟨c, k3, us, ts, rfl, h3, r3, q⟩ := rz.seq q
      exact ⟨k1, k2, k3, a, b, c, ws, zs, us, rfl, sqk_of (S'.hF _ _ h1), sqk_of (S'.hF _ _ h2), sqk_of (S'.hF _ _ h3), k _ _ F' H' ρ' u S' (itrep_z3 h1 h2 h3 r1 r2 r3) q⟩⟩
def enumD (n : Nat) : List D → List D
  | [] => []
  | x :: xs => .tup [.int n, x] :: enumD (n + 1) xs
theorem enumD_get : ∀ {xs : List D} {n i : Nat} {d : D}, (enumD n xs)[i]? = some d → ∃ x, xs[i]? = some x ∧ d = .tup [.int (n + i : Nat), x]
  | x :: xs, n, 0, d, h => ⟨x, rfl, (Option.some.inj h).symm⟩
  | x :: xs, n, i + 1, d, h => by
    obtain ⟨a, h1, h2⟩ := enumD_get (xs := xs) (n := n + 1) (i := i) (d := d) h
    exact ⟨a, h1, by rw [h2, show n + 1 + i = n + (i + 1) by omega]⟩
  | [], _, _, _, h => by simp [enumD] at h
theorem enumD_len : ∀ (xs : List D) (n : Nat), (enumD n xs).length = xs.length
  | [], _ => rfl
  | x :: xs, n => by simp [enumD, enumD_len xs (n + 1)]
theorem itrep_e {K : PySem.W.Frag} {F : Hp} {k : Bool} {a : Addr} {vs : List V} {xs : List D} (h1 : F a = some (if k = true then .lst vs else .tup vs)) (r1 : Reps K F vs xs) : ItRep K (ItE K k a) F (enumD 0 xs) := fun F' H e1 e2 => by
  have s1 : SqK K k H a vs := sqk_of (e2 _ _ (e1 _ _ h1))
  refine ⟨fun i d hd => ?_, ⟨vs, s1, by rw [enumD_len, r1.length]⟩⟩
  obtain ⟨x, hx, rfl⟩ := enumD_get hd
  obtain ⟨v, hv, rv⟩ := r1.get hx
  refine ⟨⟨vs, v, s1, hv⟩, fun z H' q => ?_⟩
  obtain ⟨T, v', rfl, hT, rfl, f1⟩ := q
  have ev : v' = v := Option.some.inj ((f1 _ s1).symm.trans hv)
  subst ev
  have hn : F' T = none := e2.free hT
  rw [Nat.zero_add]
  exact ⟨_, .new hT (.tup upd_same (.cons (.int _) (.cons ((rv.mono e1).mono (same_new hn)) .nil)))⟩
def jE (T : TAp) : TAp := fun ρ Q => T ρ fun ds ρ1 => match ds with | [x] => asSeq x fun xs => Q (enumD 0 xs) ρ1 | _ => False
theorem ppi_e {e : Expr} {ta : TA} {TA' : TAp} {p tpos : Pos} {elts : List Expr} {kk : Nat} (hg : Gl X "enumerate") (hm : X.mg "enumerate" = none) (ha : PPA X [e] ta TA') (hs : starEach [e] X.env = [(false, eval e X.env)] := by rfl) :
    PPI X (.Tuple elts kk tpos) (.Call (.Name "enumerate" p) [e] [] pos) (iE X.K ta) (jE TA') := ⟨pi_e hg hm ha.pa hs, fun G F H σ ρ Q R S h k =>
  ha.snd G F H σ ρ _ _ S h fun vs ds F' H' ρ' u S' rv q => by
    match ds, rv, q with
    | [x], .cons rx .nil, q =>
      obtain ⟨a, k1, ws, xs, rfl, h1, r1, q⟩ := rx.seq q
      exact ⟨k1, a, ws, rfl, sqk_of (S'.hF _ _ h1), k _ _ F' H' ρ' u S' (itrep_e h1 r1) q⟩⟩
end
/-! ### for -/
def forW (g : TGp) (tb : TSp) (P : PEnds) : List D → Ro → Prop
  | [], ρ => P.nx ρ
  | d :: ds, ρ => g d ρ fun ρ1 => tb { P with nx := forW g tb P ds, ct := forW g tb P ds, bk := P.nx } ρ1
def pFor (Ti : TAp) (g : TGp) (tb : TSp) : TSp := fun P ρ => Ti ρ fun ds ρ1 => forW g tb P ds ρ1
theorem snd_for {K : PySem.W.Frag} {wi : TI} {Ti : TAp} {g : TG} {Gp : TGp} {is : List Nat} {tb : TS} {Tb : TSp} (hi : SndI K wi Ti) (hg : SndG K g Gp is) (hb : SndS K tb Tb) : SndS K (tFor wi g tb) (pFor Ti Gp Tb) := fun G F H σ ρ P D S h r =>
  hi G F H σ ρ _ _ S h fun J ds F1 H1 ρ1 u1 S1 J1 w1 => by
    refine ⟨fun i m σ' H' => m + i = ds.length ∧ ∃ F' ρ', Up G F1 F' ∧ Sim K G F' H' σ' ρ' ∧ forW Gp Tb P (ds.drop i) ρ', ⟨ds.length, by omega, F1, ρ1, .refl _ _, S1, w1⟩, fun i m σ' H' hW => ?_⟩
    obtain ⟨hm, F', ρ', u', S', w'⟩ := hW
    have J' := J1 F' H' u'.ex S'.hF
    by_cases hlt : i < ds.length
    · refine .inr ⟨(J'.1 i ds[i] (List.getElem?_eq_getElem hlt)).1, fun σ'' H'' => ∃ F'' ρ'', Up G F1 F'' ∧ Sim K G F'' H'' σ'' ρ'' ∧ forW Gp Tb P (ds.drop (i + 1)) ρ'', fun σ'' H'' q => ⟨m - 1, by omega, by omega, q⟩, fun x H'' hy => ?_⟩
      obtain ⟨F2, res⟩ := (J'.1 i ds[i] (List.getElem?_eq_getElem hlt)).2 x H'' hy
      obtain ⟨u2, S2, r2⟩ := S'.res res
      rw [List.drop_eq_getElem_cons hlt] at w'
      refine hg G F2 H'' σ' ρ' _ _ x _ S2 r2 w' fun F3 H3 σ3 ρ3 u3 S3 _ _ q3 => hb G F3 H3 σ3 ρ3 _ _ S3 q3 ?_
      have up := (u'.trans u2).trans u3
      exact ⟨fun F4 H4 σ4 ρ4 u4 S4 q4 => ⟨F4, ρ4, up.trans u4, S4, q4⟩, fun F4 H4 σ4 ρ4 v c u4 S4 q4 => r.rt F4 H4 σ4 ρ4 v c (u1.trans (up.trans u4)) S4 q4,
        fun F4 H4 σ4 ρ4 u4 S4 q4 => r.nx F4 H4 σ4 ρ4 (u1.trans (up.trans u4)) S4 q4, fun F4 H4 σ4 ρ4 u4 S4 q4 => ⟨F4, ρ4, up.trans u4, S4, q4⟩⟩
    · have e : i = ds.length := by omega
      subst e
      rw [List.drop_length] at w'
      exact .inl ⟨J'.2, r.nx F' H' σ' ρ' (u1.trans u') S' w'⟩
theorem pps_for {X : Cx} {tg iter : Expr} {body : List Stmt} {wi : TI} {Ti : TAp} {g : TG} {Gp : TGp} {is : List Nat} {tb : TS} {Tb : TSp} {pos : Pos} (hp : PassesOwn (model X.prog X.w) X.A X.env X.xe) (hc : X.calm = true) (hi : PPI X tg iter wi Ti) (hg : PTg X tg g Gp is) (hb : PPSs X body tb Tb)
    (hs : ∀ x, foldedSetIterable iter X.env x = pure x := by intro _; rfl) : PPS X (.For tg iter body [] pos) (tFor wi g tb) (pFor Ti Gp Tb) := ⟨ps_for hp hc hi.pi hg.pg hb.ps hs, snd_for hi.snd hg.snd hb.snd⟩
/-! ### while -/
def pWhile (C : TTp) (tb : TSp) : TSp := fun P ρ => ∃ W : Nat → Ro → Prop, (∃ m, W m ρ) ∧ ∀ m ρ, W m ρ → C ρ fun b ρ1 => if b = true then tb { P with nx := fun ρ' => ∃ m', m' < m ∧ W m' ρ', ct := fun ρ' => ∃ m', m' < m ∧ W m' ρ', bk := P.nx } ρ1 else P.nx ρ1
theorem pps_while {X : Cx} {c : Expr} {body : List Stmt} {tc : TT} {C : TTp} {tb : TS} {Tb : TSp} {pos : Pos} (hp : PassesOwn (model X.prog X.w) X.A X.env X.xe) (hc : PPT X c tc C) (hb : PPSs X body tb Tb) : PPS X (.While c body [] pos) (tWhile tc tb) (pWhile C Tb) := ⟨ps_while hp hc.pt hb.ps, fun G F H σ ρ P D S h r => by
  obtain ⟨W, ⟨m, w0⟩, hW⟩ := h
  refine ⟨fun m σ' H' => ∃ F' ρ', Up G F F' ∧ Sim X.K G F' H' σ' ρ' ∧ W m ρ', ⟨m, F, ρ, .refl _ _, S, w0⟩, fun m σ' H' q => ?_⟩
  obtain ⟨F', ρ', u', S', w'⟩ := q
  refine hc.snd G F' H' σ' ρ' _ _ S' (hW m ρ' w') fun b F1 H1 ρ1 u1 S1 q1 => ?_
  cases b with
  | true =>
    refine ite_ti ⟨fun σ2 H2 => ∃ m', m' < m ∧ ∃ F' ρ', Up G F F' ∧ Sim X.K G F' H2 σ2 ρ' ∧ W m' ρ', fun σ2 H2 q => q, hb.snd G F1 H1 σ' ρ1 _ _ S1 (ite_t q1) ?_⟩
    have up := u'.trans u1
    exact ⟨fun F4 H4 σ4 ρ4 u4 S4 ⟨m', l, q4⟩ => ⟨m', l, F4, ρ4, up.trans u4, S4, q4⟩, fun F4 H4 σ4 ρ4 v c u4 S4 q4 => r.rt F4 H4 σ4 ρ4 v c (up.trans u4) S4 q4,
      fun F4 H4 σ4 ρ4 u4 S4 q4 => r.nx F4 H4 σ4 ρ4 (up.trans u4) S4 q4, fun F4 H4 σ4 ρ4 u4 S4 ⟨m', l, q4⟩ => ⟨m', l, F4, ρ4, up.trans u4, S4, q4⟩⟩
  | false => exact ite_fi (r.nx F1 H1 σ' ρ1 (u'.trans u1) S1 (ite_f q1))⟩
end Pl
namespace Pl
open PySem PySem.Spec PyProof.Rows L2
variable [TJ]
/-! ### list comprehensions -/
def valOnly : Option (Option Cell) → Option Cell
  | some (some (.val d)) => some (.val d)
  | _ => none
def wipeP (ρ : Ro) : List Nat → Ro
  | [] => ρ
  | v :: vs => (wipeP ρ vs).set v none
def restore (ρ0 ρ : Ro) : List Nat → Ro
  | [] => ρ
  | v :: vs => (restore ρ0 ρ vs).set v (valOnly ρ0[v]?)
theorem wipeP_len (ρ : Ro) : ∀ vs : List Nat, (wipeP ρ vs).length = ρ.length
  | [] => rfl
  | v :: vs => by simp [wipeP, wipeP_len ρ vs]
theorem wipe_get {σ : L2.St} : ∀ {vs : List Nat} {j : Nat}, (wipe σ vs)[j]? = if j ∈ vs ∧ j < σ.length then some none else σ[j]?
  | [], j => by simp [wipe]
  | v :: vs, j => by
    show ((wipe σ vs).set v none)[j]? = _
    by_cases h : v = j
    · subst h
      by_cases hl : v < σ.length
      · rw [List.getElem?_set_self (by rw [wipe_length]; exact hl), if_pos ⟨by simp, hl⟩]
      · rw [List.getElem?_eq_none (by simp [wipe_length]; omega), if_neg (fun q => hl q.2), List.getElem?_eq_none (by omega)]
    · rw [List.getElem?_set_ne h, wipe_get]
      have e : (j ∈ v :: vs) ↔ j ∈ vs := by
        constructor
        · intro q
          rcases List.mem_cons.mp q with q | q
          · exact absurd q.symm h
          · exact q
        · exact List.mem_cons_of_mem _
      simp only [e]
theorem wipe_eq {σ σ2 : L2.St} {vs : List Nat} (hl : σ2.length = σ.length) (h : ∀ j, j ∉ vs → σ2[j]? = (wipe σ vs)[j]?) : wipe σ2 vs = wipe σ vs := by
  apply List.ext_getElem?
  intro j
  rw [wipe_get, wipe_get]
  by_cases hj : j ∈ vs
  · by_cases hlt : j < σ.length
    · rw [if_pos ⟨hj, by omega⟩, if_pos ⟨hj, hlt⟩]
    · rw [if_neg (fun q => hlt (by omega)), if_neg (fun q => hlt q.2), List.getElem?_eq_none (by omega), List.getElem?_eq_none (by omega)]
  · have e := h j hj
    rw [wipe_get, if_neg (fun q => hj q.1)] at e
    rw [if_neg (fun q => hj q.1), if_neg (fun q => hj q.1)]
    exact e
section
variable {K : PySem.W.Frag} {G F H : Hp} {σ : L2.St} {ρ : Ro}
theorem Sim.wipe (S : Sim K G F H σ ρ) : ∀ vs : List Nat, Sim K G F H (L2.wipe σ vs) (wipeP ρ vs)
  | [] => S
  | v :: vs => (Sim.wipe S vs).forget v none
/-- a cell that nobody knows of is written -/
theorem Sim.updFree (S : Sim K G F H σ ρ) {p : Addr} {vs ws : List V} (hH : H p = some (.lst vs)) (hF : F p = none) (hG : G p = none) (hn : NotOwn ρ p) : Sim K G F (upd H p (.lst ws)) σ ρ where
  hF := fun a x e => by rw [upd_ne (ne_of_none e hF)]; exact S.hF a x e
  hG := S.hG.mut hG hH
  len := S.len
  val := S.val
  own := fun i a xs e => by
    obtain ⟨h1, h2, h3, vs, h4, h5⟩ := S.own i a xs e
    have q : a ≠ p := fun z => by subst z; exact hn i xs e
    exact ⟨h1, h2, h3, vs, by rw [upd_ne q]; exact h4, h5⟩
  ne := S.ne
/-- another frame -/
theorem Sim.guard (S : Sim K G F H σ ρ) {p : Addr} {vs : List V} (hH : H p = some (.lst vs)) (hn : NotOwn ρ p) : Sim K (upd G p (.lst vs)) F H σ ρ where
  hF := S.hF
  hG := S.hG.guard hH
  len := S.len
  val := S.val
  own := fun i a xs e => by
    obtain ⟨h1, h2, h3, h4⟩ := S.own i a xs e
    have q : a ≠ p := fun z => by subst z; exact hn i xs e
    exact ⟨h1, h2, by rw [upd_ne q]; exact h3, h4⟩
  ne := S.ne
theorem Sim.unguard {G' : Hp} (S : Sim K G' F H σ ρ) (h : Same G G') : Sim K G F H σ ρ where
  hF := S.hF
  hG := S.hG.less h
  len := S.len
  val := S.val
  own := fun i a xs e => by
    obtain ⟨h1, h2, h3, h4⟩ := S.own i a xs e
    exact ⟨h1, h2, h.free h3, h4⟩
  ne := S.ne
theorem restore_len (ρ0 ρ : Ro) : ∀ vs : List Nat, (restore ρ0 ρ vs).length = ρ.length
  | [] => rfl
  | v :: vs => by simp [restore, restore_len ρ0 ρ vs]
theorem restore_get {ρ0 ρ : Ro} {c : Cell} : ∀ {vs : List Nat} {j : Nat}, (restore ρ0 ρ vs)[j]? = some (some c) → (j ∈ vs ∧ ∃ d, c = .val d ∧ ρ0[j]? = some (some (.val d))) ∨ (j ∉ vs ∧ ρ[j]? = some (some c))
  | [], j, h => .inr ⟨by simp, h⟩
  | v :: vs, j, h => by
    by_cases hv : v = j
    · subst hv
      refine .inl ⟨by simp, ?_⟩
      have hl : v < (restore ρ0 ρ vs).length := by
        have := lt_of_get h
        simpa [restore] using this
      have h' : ((restore ρ0 ρ vs).set v (valOnly ρ0[v]?))[v]? = some (some c) := h
      rw [List.getElem?_set_self hl] at h'
      have h'' : valOnly ρ0[v]? = some c := Option.some.inj h'
      cases e : ρ0[v]? with
      | none => rw [e] at h''; cases h''
      | some x =>
        rw [e] at h''
        cases x with
        | none => cases h''
        | some y =>
          cases y with
          | val d => cases h''; exact ⟨d, rfl, rfl⟩
          | own a xs => cases h''
    · have h' : ((restore ρ0 ρ vs).set v (valOnly ρ0[v]?))[j]? = some (some c) := h
      rw [List.getElem?_set_ne hv] at h'
      rcases restore_get h' with ⟨q, r⟩ | ⟨q, r⟩
      · exact .inl ⟨List.mem_cons_of_mem _ q, r⟩
      · refine .inr ⟨fun z => ?_, r⟩
        rcases List.mem_cons.mp z with z | z
        · exact hv z.symm
        · exact q z
theorem Sim.restore {G' F1 H1 : Hp} {σ2 : L2.St} {ρ2 : Ro} {vs : List Nat} (S : Sim K G F H σ ρ) (S2 : Sim K G' F1 H1 σ2 ρ2) (hG : Same G G') (hF : Same F F1) (hl : σ2.length = σ.length) (hj : ∀ j, j ∉ vs → σ2[j]? = σ[j]?) : Sim K G F1 H1 σ (restore ρ ρ2 vs) where
  hF := S2.hF
  hG := S2.hG.less hG
  len := by rw [restore_len, ← S2.len, hl]
  val := fun i d e => by
    rcases restore_get e with ⟨q, d', e', r⟩ | ⟨q, r⟩
    · cases e'
      obtain ⟨v, h1, h2⟩ := S.val i d r
      exact ⟨v, h1, h2.mono hF⟩
    · obtain ⟨v, h1, h2⟩ := S2.val i d r
      exact ⟨v, (hj i q).symm.trans h1, h2⟩
  own := fun i a xs e => by
    rcases restore_get e with ⟨q, d', e', r⟩ | ⟨q, r⟩
    · cases e'
    · obtain ⟨h1, h2, h3, h4⟩ := S2.own i a xs r
      exact ⟨(hj i q).symm.trans h1, h2, hG.free h3, h4⟩
  ne := fun i j a xs ys e1 e2 => by
    rcases restore_get e1 with ⟨_, _, e', _⟩ | ⟨_, r1⟩
    · cases e'
    · rcases restore_get e2 with ⟨_, _, e', _⟩ | ⟨_, r2⟩
      · cases e'
      · exact S2.ne i j a xs ys r1 r2
end
def lcW (vs : List Nat) (g : TGp) (tt : TTp) (te : TEp) (Q : List D → Ro → Prop) : List D → List D → Ro → Prop
  | [], acc, ρ => Q acc ρ
  | d :: ds, acc, ρ => g d (wipeP ρ vs) fun ρ2 => tt ρ2 fun b ρ3 => if b = true then te ρ3 fun y ρ4 => acc.length < sizeLine ∧ lcW vs g tt te Q ds (acc ++ [y]) (restore ρ ρ4 vs) else lcW vs g tt te Q ds acc (restore ρ ρ3 vs)
def pLcO (Ti : TAp) (g : TGp) (tt : TTp) (te : TEp) (vs : List Nat) : TCp := fun ρ Q => Ti ρ fun ds ρ1 => lcW vs g tt te (fun acc ρ2 => ∀ a, Q (.own a acc) ρ2) ds [] ρ1
def pLc (Ti : TAp) (g : TGp) (tt : TTp) (te : TEp) (vs : List Nat) : TEp := fun ρ Q => Ti ρ fun ds ρ1 => lcW vs g tt te (fun acc ρ2 => Q (.lst acc) ρ2) ds [] ρ1
theorem snd_lc {K : PySem.W.Frag} {wi : TI} {Ti : TAp} {g : TG} {Gp : TGp} {is : List Nat} {tt : TT} {Tt : TTp} {te : TE} {Te : TEp} {vs : List Nat} (hi : SndI K wi Ti) (hg : SndG K g Gp is) (ht : SndT K tt Tt) (he : SndE K te Te) (hsub : ∀ i ∈ is, i ∈ vs) : SndC K (tLc wi g tt te vs) (pLcO Ti Gp Tt Te vs) := fun G F H σ ρ Q R S h k =>
  hi G F H σ ρ _ _ S h fun J ds F1 H1 ρ1 u1 S1 J1 w1 => fun D hD => by
    refine ⟨fun i m H' => m + i = ds.length ∧ ∃ F' ρ' acc, Up G F1 F' ∧ Sim K G F' H' (σ ++ [some (.ref D)]) (ρ' ++ [some (.own D acc)]) ∧ lcW vs Gp Tt Te (fun acc ρ2 => ∀ a, Q (.own a acc) ρ2) (ds.drop i) acc ρ', ⟨ds.length, by omega, F1, ρ1, [], .refl _ _, S1.newOwn hD .nil, w1⟩, fun i m H' hW => ?_⟩
    obtain ⟨hm, F', ρ', acc, u', S0, w'⟩ := hW
    have S' := S0.drop
    obtain ⟨_, hFD, hGD, hnD, av, hHD, rD⟩ := S0.lastOwn
    have J' := J1 F' H' u'.ex S'.hF
    by_cases hlt : i < ds.length
    · refine .inr ⟨(J'.1 i ds[i] (List.getElem?_eq_getElem hlt)).1, fun H'' => ∃ F'' ρ'' acc, Up G F1 F'' ∧ Sim K G F'' H'' (σ ++ [some (.ref D)]) (ρ'' ++ [some (.own D acc)]) ∧ lcW vs Gp Tt Te (fun acc ρ2 => ∀ a, Q (.own a acc) ρ2) (ds.drop (i + 1)) acc ρ'', fun H'' q => ⟨m - 1, by omega, by omega, q⟩, fun x H'' hy => ?_⟩
      obtain ⟨F2, res⟩ := (J'.1 i ds[i] (List.getElem?_eq_getElem hlt)).2 x H'' hy
      have Sg : Sim K (upd G D (.lst av)) F' H' σ ρ' := S'.guard hHD hnD
      obtain ⟨u2, S2, r2⟩ := Sg.res res
      have hGG : Same G (upd G D (.lst av)) := same_new hGD
      rw [List.drop_eq_getElem_cons hlt] at w'
      refine hg (upd G D (.lst av)) F2 H'' (wipe σ vs) (wipeP ρ' vs) _ _ x _ (S2.wipe vs) r2 w' fun F3 H3 σ3 ρ3 u3 S3 o3 l3 q3 => ?_
      have hl3 : σ3.length = σ.length := by rw [l3, wipe_length]
      have ho3 : ∀ j, j ∉ vs → σ3[j]? = (wipe σ vs)[j]? := fun j hj => o3 j fun z => hj (hsub j z)
      have hoσ : ∀ j, j ∉ vs → σ3[j]? = σ[j]? := fun j hj => by rw [ho3 j hj, wipe_get, if_neg (fun q => hj q.1)]
      refine ⟨wipe_eq hl3 ho3, ht (upd G D (.lst av)) F3 H3 σ3 ρ3 _ _ S3 q3 fun b F4 H4 ρ4 u4 S4 q4 => ?_⟩
      cases b with
      | true =>
        refine ite_ti (he (upd G D (.lst av)) F4 H4 σ3 ρ4 _ _ S4 (ite_t q4) fun y dy F5 H5 ρ5 u5 S5 r5 q5 => ?_)
        have up := ((u2.trans u3).trans u4).trans u5
        have hH5 : H5 D = some (.lst av) := S5.hG D _ upd_same
        have hF5 : F5 D = none := up.isNone hFD upd_same
        have S6 : Sim K G F5 H5 σ (Pl.restore ρ' ρ5 vs) := S'.restore S5 hGG up.ex hl3 hoσ
        have hn6 : NotOwn (Pl.restore ρ' ρ5 vs) D := fun j xs e => by
          rcases restore_get e with ⟨_, _, e', _⟩ | ⟨_, r⟩
          · cases e'
          · have := (S5.own j D xs r).2.2.1
            rw [upd_same] at this; cases this
        have r6 : Reps K F5 (av ++ [y]) (acc ++ [dy]) := (rD.mono up.ex).append (.one r5)
        refine ⟨av, hH5, by rw [rD.length]; exact q5.1, F5, _, acc ++ [dy], u'.trans (up.less hGG), ?_, q5.2⟩
        exact (S6.updFree hH5 hF5 hGD hn6).pushOwn upd_same hF5 hGD hn6 r6
      | false =>
        refine ite_fi ⟨F4, _, acc, u'.trans (((u2.trans u3).trans u4).less hGG), ?_, ite_f q4⟩
        have up := (u2.trans u3).trans u4
        have hH4 : H4 D = some (.lst av) := S4.hG D _ upd_same
        have hF4 : F4 D = none := up.isNone hFD upd_same
        have S6 : Sim K G F4 H4 σ (Pl.restore ρ' ρ4 vs) := S'.restore S4 hGG up.ex hl3 hoσ
        have hn6 : NotOwn (Pl.restore ρ' ρ4 vs) D := fun j xs e => by
          rcases restore_get e with ⟨_, _, e', _⟩ | ⟨_, r⟩
          · cases e'
          · have := (S4.own j D xs r).2.2.1
            rw [upd_same] at this; cases this
        exact S6.pushOwn hH4 hF4 hGD hn6 (rD.mono up.ex)
    · have e : i = ds.length := by omega
      subst e
      rw [List.drop_length] at w'
      exact .inl ⟨J'.2, k _ _ F' H' ρ' (u1.trans u') S0 (w' D)⟩
structure PPTs (X : Cx) (ifs : List Expr) (t : TT) (T : TTp) : Prop where
  pt : PTs X ifs t
  snd : SndT X.K t T
def pYes : TTp := fun ρ Q => Q true ρ
theorem ppts_nil {X : Cx} : PPTs X [] tYes pYes := ⟨pts_nil, fun G F H σ ρ Q R S h k => k true F H ρ (.refl _ _) S h⟩
theorem ppts_one {X : Cx} {c : Expr} {t : TT} {T : TTp} (h : PPT X c t T) : PPTs X [c] t T := ⟨pts_one h.pt, h.snd⟩
section
variable {X : Cx} {elt tg iter : Expr} {ifs : List Expr} {scope : Scope} {own : List (Str × Nat)} {pos : Pos} {wi : TI} {Ti : TAp} {g : TG} {Gp : TGp} {is : List Nat} {tt : TT} {Tt : TTp} {te : TE} {Te : TEp} {vs : List Nat}
theorem ppc_lc (hc : X.calm = true) (hN : X.N.Nodup) (hi : PPI X tg iter wi Ti) (ok : BlkOk X.N X.env.scope scope own)
    (hg : ∀ (s : Shared) (H : Hp) (C : Addr) (cl : List (Str × Addr)) (fp : List Addr), PTg (X.blk s H scope (compEnvC scope cl C X.env) fp) tg g Gp is) (ht : ∀ (s : Shared) (H : Hp) (C : Addr) (cl : List (Str × Addr)) (fp : List Addr), PPTs (X.blk s H scope (compEnvC scope cl C X.env) fp) ifs tt Tt)
    (he : ∀ (s : Shared) (H : Hp) (C : Addr) (cl : List (Str × Addr)) (fp : List Addr), PPE (X.blk s H scope (compEnvC scope cl C X.env) fp) elt te Te) (hs : ∀ x, foldedSetIterable iter X.env x = pure x := by intro _; rfl) (hsub : ∀ i ∈ is, i ∈ own.map (·.2) := by decide) :
    PPC X (.ListComp elt [⟨tg, iter, ifs, 0⟩] scope pos) (tLc wi g tt te (own.map (·.2))) (pLcO Ti Gp Tt Te (own.map (·.2))) := by
  refine ⟨pe_lc hc hN hi.pi ok (fun s H C cl fp => (hg s H C cl fp).pg) (fun s H C cl fp => (ht s H C cl fp).pt) (fun s H C cl fp => (he s H C cl fp).pe) hs, ?_⟩
  exact snd_lc hi.snd (hg X.s_0 (fun _ => none) 0 [] []).snd (ht X.s_0 (fun _ => none) 0 [] []).snd (he X.s_0 (fun _ => none) 0 [] []).snd hsub
theorem snd_lcV {K : PySem.W.Frag} {t : TE} (h : SndC K t (pLcO Ti Gp Tt Te vs)) : SndE K t (pLc Ti Gp Tt Te vs) := fun G F H σ ρ Q R S hT k => h G F H σ ρ (fun c ρ' => Q c.froz ρ') R S (by
    unfold pLcO
    unfold pLc at hT
    have e : (fun (acc : List D) (ρ2 : Ro) => ∀ a : Addr, Q (Cell.froz (.own a acc)) ρ2) = fun acc ρ2 => Q (.lst acc) ρ2 := by
      funext acc ρ2
      exact propext ⟨fun q => q 0, fun q _ => q⟩
    show Ti ρ fun ds ρ1 => lcW vs Gp Tt Te (fun acc ρ2 => ∀ a : Addr, Q (Cell.froz (.own a acc)) ρ2) ds [] ρ1
    rw [e]
    exact hT) fun v c F' H' ρ' u S' q => by
  obtain ⟨F2, u2, S2, r2⟩ := S'.froz
  exact k v _ F2 H' ρ' (u.trans u2) S2 r2 q
theorem ppe_lc (hc : X.calm = true) (hN : X.N.Nodup) (hi : PPI X tg iter wi Ti) (ok : BlkOk X.N X.env.scope scope own)
    (hg : ∀ (s : Shared) (H : Hp) (C : Addr) (cl : List (Str × Addr)) (fp : List Addr), PTg (X.blk s H scope (compEnvC scope cl C X.env) fp) tg g Gp is) (ht : ∀ (s : Shared) (H : Hp) (C : Addr) (cl : List (Str × Addr)) (fp : List Addr), PPTs (X.blk s H scope (compEnvC scope cl C X.env) fp) ifs tt Tt)
    (he : ∀ (s : Shared) (H : Hp) (C : Addr) (cl : List (Str × Addr)) (fp : List Addr), PPE (X.blk s H scope (compEnvC scope cl C X.env) fp) elt te Te) (hs : ∀ x, foldedSetIterable iter X.env x = pure x := by intro _; rfl) (hsub : ∀ i ∈ is, i ∈ own.map (·.2) := by decide) :
    PPE X (.ListComp elt [⟨tg, iter, ifs, 0⟩] scope pos) (tLc wi g tt te (own.map (·.2))) (pLc Ti Gp Tt Te (own.map (·.2))) := by
  have h := ppc_lc (pos := pos) hc hN hi ok hg ht he hs hsub
  exact ⟨h.pe, snd_lcV h.snd⟩
theorem pps_setLc {i : Nat} {y : Str} {py spos : Pos} (hc : X.calm = true) (hN : X.N.Nodup) (hi : PPI X tg iter wi Ti) (ok : BlkOk X.N X.env.scope scope own)
    (hg : ∀ (s : Shared) (H : Hp) (C : Addr) (cl : List (Str × Addr)) (fp : List Addr), PTg (X.blk s H scope (compEnvC scope cl C X.env) fp) tg g Gp is) (ht : ∀ (s : Shared) (H : Hp) (C : Addr) (cl : List (Str × Addr)) (fp : List Addr), PPTs (X.blk s H scope (compEnvC scope cl C X.env) fp) ifs tt Tt)
    (he : ∀ (s : Shared) (H : Hp) (C : Addr) (cl : List (Str × Addr)) (fp : List Addr), PPE (X.blk s H scope (compEnvC scope cl C X.env) fp) elt te Te)
    (hy : X.N[i]? = some y := by rfl) (hyl : X.env.scope.names.lookup y = some .local := by rfl)
    (hsw : swapsWith (.ListComp elt [⟨tg, iter, ifs, 0⟩] scope pos) (some (.Name y py)) spos.line X.env = pure true := by exact sw_true rfl rfl rfl (by decide +kernel)) (hs : ∀ x, foldedSetIterable iter X.env x = pure x := by intro _; rfl) (hsub : ∀ i ∈ is, i ∈ own.map (·.2) := by decide) :
    PPS X (.Assign [.Name y py] (.ListComp elt [⟨tg, iter, ifs, 0⟩] scope pos) spos) (tAsg (tLc wi g tt te (own.map (·.2))) (gName i)) (pSet i (pLcO Ti Gp Tt Te (own.map (·.2)))) := by
  have h := ppc_lc (pos := pos) hc hN hi ok hg ht he hs hsub
  exact ⟨ps_setLc hc hN hy hyl hsw hi.pi ok (fun s H C cl fp => (hg s H C cl fp).pg) (fun s H C cl fp => (ht s H C cl fp).pt) (fun s H C cl fp => (he s H C cl fp).pe) hs, snd_set h.snd⟩
end
end Pl
namespace Pl
open PySem PySem.Spec PyProof.Rows L2
variable [TJ]
/-! ### subscripts -/
section
variable {X : Cx} {a b : Expr} {ta tb : TE} {Ta Tb : TEp} {pos : Pos}
theorem Reps.atI {K : PySem.W.Frag} {F : Hp} {vs : List V} {ds : List D} {i : Int} {d : D} (r : Reps K F vs ds) (h : atI ds i = some d) : ∃ v, L2.atI vs i = some v ∧ Rep K F v d := by
  unfold L2.atI at h ⊢
  rw [r.length]
  cases e : ixN ds.length i with
  | none => rw [e] at h; cases h
  | some j => rw [e] at h; exact r.get h
theorem atI_ints {ns : List Int} {i n : Int} (h : L2.atI ns i = some n) : L2.atI (ns.map V.int) i = some (V.int n) := by
  unfold L2.atI at h ⊢
  rw [List.length_map]
  cases e : ixN ns.length i with
  | none => rw [e] at h; cases h
  | some j =>
    rw [e] at h
    show (ns.map V.int)[j]? = some (V.int n)
    have h' : ns[j]? = some n := h
    rw [List.getElem?_map, h']; rfl
def rIxA (K : PySem.W.Frag) : R2 := fun x y H Q => rIxL K x y H Q ∨ (rIxT K x y H Q ∨ rIxS x y H Q)
theorem ix_any : IxR X (rIxA X.K) := IxR.or ix_list (IxR.or ix_tup ix_str)
def fIx : F2 := fun x y Q => match x, y with
  | .lst xs, .int i => ∃ v, atI xs i = some v ∧ Q v
  | .tup xs, .int i => ∃ v, atI xs i = some v ∧ Q v
  | .scr ns, .int i => ∃ n, atI ns i = some n ∧ Q (.int n)
  | .str z, .int i => z.length ≤ sizeLine ∧ ∃ c, atI z.cps.toList i = some c ∧ Q (.str ⟨#[c]⟩)
  | _, _ => False
theorem opp_ix {K : PySem.W.Frag} : OpP K (rIxA K) fIx := fun F H x y dx dy Q R hs rx ry hf k => by
  cases rx with
  | lst h1 r1 =>
    cases ry with
    | int i =>
      obtain ⟨d, e, q⟩ := hf
      obtain ⟨v, e', r⟩ := r1.atI e
      exact .inl ⟨_, _, i, v, rfl, rfl, SqL.of (hs _ _ h1), e', k _ _ _ _ (.old r) q⟩
    | _ => exact hf.elim
  | tup h1 r1 =>
    cases ry with
    | int i =>
      obtain ⟨d, e, q⟩ := hf
      obtain ⟨v, e', r⟩ := r1.atI e
      exact .inr (.inl ⟨_, _, i, v, rfl, rfl, SqT.of (hs _ _ h1), e', k _ _ _ _ (.old r) q⟩)
    | _ => exact hf.elim
  | scr h1 =>
    cases ry with
    | int i =>
      obtain ⟨n, e, q⟩ := hf
      exact .inl ⟨_, _, i, _, rfl, rfl, hs.seq h1, atI_ints e, k _ _ _ _ (.old (.int _)) q⟩
    | _ => exact hf.elim
  | str z =>
    cases ry with
    | int i =>
      obtain ⟨hz, c, e, q⟩ := hf
      exact .inr (.inr ⟨z, i, c, rfl, rfl, hz, e, k _ _ _ _ (.old (.str _)) q⟩)
    | _ => exact hf.elim
  | _ => exact hf.elim
theorem ppe_ix (ha : PPE X a ta Ta) (hb : PPE X b tb Tb) (hs : PlainIx b := by exact fun _ _ => rfl) : PPE X (.Subscript a b pos) (tOp (rIxA X.K) ta tb) (pOp fIx Ta Tb) := ⟨pe_ix ix_any ha.pe hb.pe hs, snd_op opp_ix ha.snd hb.snd⟩
/-- name[e], the name's list one's own or not -/
def pIxO (i : Nat) (Tb : TEp) : TEp := fun ρ Q => match ρ[i]? with
  | some (some (.own a _)) => Tb ρ fun y ρ1 => ∃ xs1 k v, ρ1[i]? = some (some (.own a xs1)) ∧ y = .int k ∧ atI xs1 k = some v ∧ Q v ρ1
  | some (some (.val d)) => Tb ρ fun y ρ1 => fIx d y fun z => Q z ρ1
  | _ => False
theorem ppe_ixO (i : Nat) {x : Str} {p : Pos} (hb : PPE X b tb Tb) (hs : PlainIx b := by exact fun _ _ => rfl) (hN : X.N[i]? = some x := by rfl) (hv : Vis X.env.scope x := by first | exact Or.inl rfl | exact Or.inr (Or.inl rfl) | exact Or.inr (Or.inr rfl)) (hd : (x == ("__debug__" : Str)) = false := by decide)
    (hcd : (x == ("__classdict__" : Str)) = false := by decide) : PPE X (.Subscript (.Name x p) b pos) (tOp (rIxA X.K) (tVar i) tb) (pIxO i Tb) := ⟨pe_ix ix_any (pe_var hN hv hd hcd) hb.pe hs, fun G F H σ ρ Q R S hT k => by
  unfold pIxO at hT
  split at hT
  · rename_i a xs e
    refine ⟨.ref a, (S.own i a xs e).1, hb.snd G F H σ ρ _ _ S hT fun y dy F1 H1 ρ1 u1 S1 r1 q1 => ?_⟩
    obtain ⟨xs1, kk, v, e1, rfl, e2, q⟩ := q1
    obtain ⟨h1, h2, h3, vs, h4, h5⟩ := S1.own i a xs1 e1
    obtain ⟨w, ew, rw'⟩ := h5.atI e2
    cases r1
    exact .inl ⟨a, vs, kk, w, rfl, rfl, SqL.of h4, ew, k _ _ F1 H1 ρ1 u1 S1 rw' q⟩
  · rename_i d e
    obtain ⟨v, h1, h2⟩ := S.val i d e
    refine ⟨v, h1, hb.snd G F H σ ρ _ _ S hT fun y dy F1 H1 ρ1 u1 S1 r1 q1 => ?_⟩
    refine opp_ix F1 H1 v y d dy _ _ S1.hF (h2.mono u1.ex) r1 q1 fun w dw F2 H2 res q => ?_
    obtain ⟨u2, S2, r2⟩ := S1.res res
    exact k w dw F2 H2 ρ1 (u1.trans u2) S2 r2 q
  · exact hT.elim⟩
/-! ### slices -/
theorem Reps.cut {K : PySem.W.Frag} {F : Hp} {vs : List V} {ds : List D} (r : Reps K F vs ds) (lo hi : Option Int) : Reps K F (cutV vs lo hi) ((ds.drop (HT.sIx ds.length 0 lo)).take (HT.sIx ds.length ds.length hi - HT.sIx ds.length 0 lo)) := by
  unfold cutV
  rw [r.length]
  exact (r.drop _).take _
def cutD (xs : List D) (lo hi : Option Int) : List D := (xs.drop (HT.sIx xs.length 0 lo)).take (HT.sIx xs.length xs.length hi - HT.sIx xs.length 0 lo)
def rSlX (K : PySem.W.Frag) : V → Option Int → Option Int → Hp → VK → Prop := fun x lo hi H Q => rSlL K x lo hi H Q ∨ rSlA K x lo hi H Q
theorem sl_any : SlR X (rSlX X.K) := SlR.or sl_list sl_tupA
abbrev TOp := Ro → (Option Int → Ro → Prop) → Prop
def pNoPart : TOp := fun ρ Q => Q none ρ
def pPart (T : TEp) : TOp := fun ρ Q => T ρ fun x ρ1 => match x with | .int i => Q (some i) ρ1 | _ => False
def SndO (K : PySem.W.Frag) (t : TO) (T : TOp) : Prop := ∀ (G F H : Hp) (σ : L2.St) (ρ : Ro) (Q : Option Int → Ro → Prop) (R : Option Int → Hp → Prop), Sim K G F H σ ρ → T ρ Q →
  (∀ o F' H' ρ', Up G F F' → Sim K G F' H' σ ρ' → Q o ρ' → R o H') → t σ H R
structure PPO (X : Cx) (e : Option Expr) (t : TO) (T : TOp) : Prop where
  po : PO X e t
  snd : SndO X.K t T
theorem ppo_none : PPO X none tNoPart pNoPart := ⟨po_none, fun G F H σ ρ Q R S h k => k none F H ρ (.refl _ _) S h⟩
theorem ppo_some (h : PPE X a ta Ta) : PPO X (some a) (tPart ta) (pPart Ta) := ⟨po_some h.pe, fun G F H σ ρ Q R S hT k => h.snd G F H σ ρ _ _ S hT fun v d F' H' ρ' u S' r q => by
  cases r with
  | int i => exact ⟨i, rfl, k _ F' H' ρ' u S' q⟩
  | _ => exact q.elim⟩
def fSl (x : D) (lo hi : Option Int) (Q : D → Prop) : Prop := match x with
  | .lst xs => Q (.lst (cutD xs lo hi))
  | .tup xs => Q (.tup (cutD xs lo hi))
  | _ => False
theorem cutD_all {xs : List D} {lo hi : Option Int} (h : HT.sIx xs.length 0 lo = 0 ∧ HT.sIx xs.length xs.length hi = xs.length) : cutD xs lo hi = xs := by
  unfold cutD
  rw [h.1, h.2]
  simp
def pSl (Te : TEp) (Tl Th : TOp) : TEp := fun ρ Q => Te ρ fun x ρ1 => Tl ρ1 fun l ρ2 => Th ρ2 fun u ρ3 => fSl x l u fun z => Q z ρ3
theorem ppe_slice {lo hi : Option Expr} {tl th : TO} {Tl Th : TOp} {p2 : Pos} (ha : PPE X a ta Ta) (hl : PPO X lo tl Tl) (hh : PPO X hi th Th) : PPE X (.Subscript a (.Slice lo hi none p2) pos) (tSl (rSlX X.K) ta tl th) (pSl Ta Tl Th) := ⟨pe_slice sl_any ha.pe hl.po hh.po, fun G F H σ ρ Q R S hT k =>
  ha.snd G F H σ ρ _ _ S hT fun v d F1 H1 ρ1 u1 S1 r1 q1 => hl.snd G F1 H1 σ ρ1 _ _ S1 q1 fun l F2 H2 ρ2 u2 S2 q2 => hh.snd G F2 H2 σ ρ2 _ _ S2 q2 fun h F3 H3 ρ3 u3 S3 q3 => by
    have r3 := (r1.mono u2.ex).mono u3.ex
    have up := (u1.trans u2).trans u3
    cases r3 with
    | lst e r =>
      refine .inl ⟨_, _, rfl, SqL.of (S3.hF _ _ e), fun p hp => k _ _ _ _ ρ3 (up.trans (S3.upNew hp)) (S3.new hp) (.lst upd_same ((r.mono (same_new (S3.freshF hp))).cut l h)) q3⟩
    | tup e r =>
      refine .inr ⟨_, _, rfl, SqT.of (S3.hF _ _ e), fun hw => ?_, fun _ p hp => k _ _ _ _ ρ3 (up.trans (S3.upNew hp)) (S3.new hp) (.tup upd_same ((r.mono (same_new (S3.freshF hp))).cut l h)) q3⟩
      rw [r.length] at hw
      have q3' : Q _ ρ3 := q3
      rw [cutD_all hw] at q3'
      exact k _ _ F3 H3 ρ3 up S3 (.tup e r) q3'
    | _ => exact q3.elim⟩
def fRev (x : D) (Q : D → Prop) : Prop := match x with
  | .lst xs => Q (.lst xs.reverse)
  | .tup xs => Q (.tup xs.reverse)
  | _ => False
theorem ppe_rev {k : Nat} {p1 p2 p3 : Pos} (ha : PPE X a ta Ta) : PPE X (.Subscript a (.Slice none none (some (.UnaryOp .USub (.Constant (.int 1) k p1) p2)) p3) pos) (tRevA X.K ta) (pUn fRev Ta) := ⟨pe_revA ha.pe, fun G F H σ ρ Q R S hT kk =>
  ha.snd G F H σ ρ _ _ S hT fun v d F1 H1 ρ1 u1 S1 r1 q1 => by
    cases r1 with
    | lst e r => exact ⟨_, _, rfl, .inl ⟨SqL.of (S1.hF _ _ e), fun p hp => kk _ _ _ _ ρ1 (u1.trans (S1.upNew hp)) (S1.new hp) (.lst upd_same (r.mono (same_new (S1.freshF hp))).reverse) q1⟩⟩
    | tup e r => exact ⟨_, _, rfl, .inr ⟨SqT.of (S1.hF _ _ e), fun p hp => kk _ _ _ _ ρ1 (u1.trans (S1.upNew hp)) (S1.new hp) (.tup upd_same (r.mono (same_new (S1.freshF hp))).reverse) q1⟩⟩
    | _ => exact q1.elim⟩
/-! ### built-ins -/
abbrev FC := List D → (D → Prop) → Prop
theorem Reps.inv1 {K : PySem.W.Frag} {F : Hp} {vs : List V} {d : D} (r : Reps K F vs [d]) : ∃ v, vs = [v] ∧ Rep K F v d := by
  cases r with | cons h t => cases t; exact ⟨_, rfl, h⟩
theorem Reps.inv2 {K : PySem.W.Frag} {F : Hp} {vs : List V} {d e : D} (r : Reps K F vs [d, e]) : ∃ v w, vs = [v, w] ∧ Rep K F v d ∧ Rep K F w e := by
  cases r with | cons h t => obtain ⟨w, rfl, h2⟩ := t.inv1; exact ⟨_, _, rfl, h, h2⟩
theorem Rep.lstInv {K : PySem.W.Frag} {F : Hp} {v : V} {xs : List D} (r : Rep K F v (.lst xs)) : ∃ a vs, v = .ref a ∧ F a = some (.lst vs) ∧ Reps K F vs xs := by
  cases r with | lst e r => exact ⟨_, _, rfl, e, r⟩
theorem Rep.tupInv {K : PySem.W.Frag} {F : Hp} {v : V} {xs : List D} (r : Rep K F v (.tup xs)) : ∃ a vs, v = .ref a ∧ F a = some (.tup vs) ∧ Reps K F vs xs := by
  cases r with | tup e r => exact ⟨_, _, rfl, e, r⟩
theorem Rep.intInv {K : PySem.W.Frag} {F : Hp} {v : V} {i : Int} (r : Rep K F v (.int i)) : v = .int i := by cases r; rfl
theorem Rep.blInv {K : PySem.W.Frag} {F : Hp} {v : V} {i : Bool} (r : Rep K F v (.bl i)) : v = .bl i := by cases r; rfl
theorem Rep.strInv {K : PySem.W.Frag} {F : Hp} {v : V} {i : Str} (r : Rep K F v (.str i)) : v = .str i := by cases r; rfl
theorem Rep.scrInv {K : PySem.W.Frag} {F : Hp} {v : V} {ns : List Int} (r : Rep K F v (.scr ns)) : ∃ a, v = .ref a ∧ SqL K F a (ns.map V.int) := by cases r with | scr h => exact ⟨_, rfl, h⟩
def fLen : FC := fun ds Q => match ds with
  | [.lst xs] => Q (.int xs.length)
  | [.tup xs] => Q (.int xs.length)
  | [.scr ns] => Q (.int ns.length)
  | [.str z] => z.length ≤ sizeLine ∧ Q (.int z.length)
  | _ => False
def rLenA (K : PySem.W.Frag) : List V → Hp → VK → Prop := fun xs H Q => (∃ p ys, xs = [.ref p] ∧ (SqL K H p ys ∨ SqT K H p ys) ∧ Q (.int ys.length) H) ∨ (∃ z, xs = [.str z] ∧ z.length ≤ sizeLine ∧ Q (.int z.length) H)
theorem cr_lenA : CallR X (.builtin "len") (rLenA X.K) := CallR.or call_len_seq call_len_str
theorem cp_len {K : PySem.W.Frag} : CallP K (rLenA K) fLen := fun F H xs ds Q R hs r hf k => by
  unfold fLen at hf
  split at hf
  · obtain ⟨v, rfl, q1⟩ := r.inv1
    obtain ⟨a, vs, rfl, e, q2⟩ := q1.lstInv
    exact .inl ⟨a, vs, rfl, .inl (SqL.of (hs _ _ e)), by rw [q2.length]; exact k _ _ _ _ (.old (.int _)) hf⟩
  · obtain ⟨v, rfl, q1⟩ := r.inv1
    obtain ⟨a, vs, rfl, e, q2⟩ := q1.tupInv
    exact .inl ⟨a, vs, rfl, .inr (SqT.of (hs _ _ e)), by rw [q2.length]; exact k _ _ _ _ (.old (.int _)) hf⟩
  · obtain ⟨v, rfl, q1⟩ := r.inv1
    obtain ⟨a, rfl, e⟩ := q1.scrInv
    exact .inl ⟨a, _, rfl, .inl (hs.seq e), by rw [List.length_map]; exact k _ _ _ _ (.old (.int _)) hf⟩
  · obtain ⟨v, rfl, q1⟩ := r.inv1
    have := q1.strInv
    subst this
    exact .inr ⟨_, rfl, hf.1, k _ _ _ _ (.old (.int _)) hf.2⟩
  · exact hf.elim
/-- len(name), the name's list one's own or not -/
def pLenO (i : Nat) : TEp := fun ρ Q => match ρ[i]? with
  | some (some (.own _ xs)) => Q (.int xs.length) ρ
  | some (some (.val d)) => fLen [d] fun z => Q z ρ
  | _ => False
theorem ppe_lenO (i : Nat) {x : Str} {p q : Pos} (hg : Gl X "len") (hm : X.mg "len" = none) (hN : X.N[i]? = some x := by rfl) (hv : Vis X.env.scope x := by first | exact Or.inl rfl | exact Or.inr (Or.inl rfl) | exact Or.inr (Or.inr rfl)) (hd : (x == ("__debug__" : Str)) = false := by decide)
    (hcd : (x == ("__classdict__" : Str)) = false := by decide) (he : starEach [.Name x q] X.env = [(false, eval (.Name x q) X.env)] := by rfl) : PPE X (.Call (.Name "len" p) [.Name x q] [] pos) (tCB (rLenA X.K) (tCons (tVar i) tNil)) (pLenO i) := ⟨pe_callB cr_lenA hg hm PySem.boot_len (pa_cons (pe_var hN hv hd hcd) pa_nil (by rw [he]; rfl)) (by decide) (by decide) (by rw [he]; rfl) rfl, fun G F H σ ρ Q R S hT k => by
  unfold pLenO at hT
  split at hT
  · rename_i a xs e
    obtain ⟨h1, h2, h3, vs, h4, h5⟩ := S.own i a xs e
    exact ⟨.ref a, h1, .inl ⟨a, vs, rfl, .inl (SqL.of h4), by rw [h5.length]; exact k _ _ F H ρ (.refl _ _) S (.int _) hT⟩⟩
  · rename_i d e
    obtain ⟨v, h1, h2⟩ := S.val i d e
    refine ⟨v, h1, ?_⟩
    refine cp_len F H [v] [d] _ _ S.hF (.cons h2 .nil) hT fun w dw F2 H2 res q => ?_
    obtain ⟨u2, S2, r2⟩ := S.res res
    exact k w dw F2 H2 ρ u2 S2 r2 q
  · exact hT.elim⟩
def iabs (i : Int) : Int := if i < 0 then -i else i
def fAbs : FC := fun ds Q => match ds with | [.int i] => Q (.int (iabs i)) | _ => False
theorem cp_abs {K : PySem.W.Frag} : CallP K (fun xs H Q => ∃ i, xs = [.int i] ∧ Q (.int (if i < 0 then -i else i)) H) fAbs := fun F H xs ds Q R hs r hf k => by
  unfold fAbs at hf
  split at hf
  · rw [r.int1]
    exact ⟨_, rfl, k _ _ _ _ (.old (.int _)) hf⟩
  · exact hf.elim
def fMin2 : FC := fun ds Q => match ds with | [.int i, .int j] => Q (.int (min i j)) | _ => False
def fMax2 : FC := fun ds Q => match ds with | [.int i, .int j] => Q (.int (max i j)) | _ => False
theorem cp_min2 {K : PySem.W.Frag} : CallP K (fun xs H Q => ∃ i j, xs = [.int i, .int j] ∧ Q (.int (if j < i then j else i)) H) fMin2 := fun F H xs ds Q R hs r hf k => by
  unfold fMin2 at hf
  split at hf
  · rename_i i j
    rw [r.int2]
    refine ⟨i, j, rfl, ?_⟩
    rw [show (if j < i then j else i) = min i j by split <;> omega]
    exact k _ _ _ _ (.old (.int _)) hf
  · exact hf.elim
theorem cp_max2 {K : PySem.W.Frag} : CallP K (fun xs H Q => ∃ i j, xs = [.int i, .int j] ∧ Q (.int (if j > i then j else i)) H) fMax2 := fun F H xs ds Q R hs r hf k => by
  unfold fMax2 at hf
  split at hf
  · rename_i i j
    rw [r.int2]
    refine ⟨i, j, rfl, ?_⟩
    rw [show (if j > i then j else i) = max i j by split <;> omega]
    exact k _ _ _ _ (.old (.int _)) hf
  · exact hf.elim
def fBest (g : Int → Int → Int) : FC := fun ds Q => match ds with
  | [.lst xs] => ∃ n ns, xs = (n :: ns).map D.int ∧ Q (.int (ns.foldl g n))
  | [.tup xs] => ∃ n ns, xs = (n :: ns).map D.int ∧ Q (.int (ns.foldl g n))
  | _ => False
theorem cp_best {K : PySem.W.Frag} {g : Int → Int → Int} : CallP K (rBest K g) (fBest g) := fun F H xs ds Q R hs r hf k => by
  unfold fBest at hf
  split at hf
  · obtain ⟨v, rfl, q1⟩ := r.inv1
    obtain ⟨a, vs, rfl, e, q2⟩ := q1.lstInv
    obtain ⟨n, ns, rfl, q⟩ := hf
    have := q2.ints
    subst this
    exact ⟨a, n, ns, rfl, .inl (SqL.of (hs _ _ e)), k _ _ _ _ (.old (.int _)) q⟩
  · obtain ⟨v, rfl, q1⟩ := r.inv1
    obtain ⟨a, vs, rfl, e, q2⟩ := q1.tupInv
    obtain ⟨n, ns, rfl, q⟩ := hf
    have := q2.ints
    subst this
    exact ⟨a, n, ns, rfl, .inr (SqT.of (hs _ _ e)), k _ _ _ _ (.old (.int _)) q⟩
  · exact hf.elim
def bestDD (g : Int → Int → Int) (d : D) : List Int → D
  | [] => d
  | n :: ns => .int (ns.foldl g n)
def pDflt (g : Int → Int → Int) (Te Td : TEp) : TEp := fun ρ Q => Te ρ fun x ρ1 => Td ρ1 fun d ρ2 => match x with
  | .lst xs => ∃ ns, xs = ns.map D.int ∧ Q (bestDD g d ns) ρ2
  | _ => False
theorem snd_dflt {K : PySem.W.Frag} {g : Int → Int → Int} (ha : SndE K ta Ta) (hb : SndE K tb Tb) : SndE K (tDflt K g ta tb) (pDflt g Ta Tb) := fun G F H σ ρ Q R S hT k =>
  ha G F H σ ρ _ _ S hT fun v d F1 H1 ρ1 u1 S1 r1 q1 => hb G F1 H1 σ ρ1 _ _ S1 q1 fun w e F2 H2 ρ2 u2 S2 r2 q2 => by
    cases r1 with
    | lst h r =>
      obtain ⟨ns, rfl, q⟩ := q2
      have := r.ints
      subst this
      refine ⟨_, ns, rfl, SqL.of (S2.hF _ _ (u2.ex _ _ h)), k _ (bestDD g e ns) F2 H2 ρ2 (u1.trans u2) S2 ?_ q⟩
      cases ns with
      | nil => exact r2
      | cons n ns => exact .int _
    | _ => exact q2.elim
theorem ppe_maxD {p kp : Pos} (hg : Gl X "max") (hm : X.mg "max" = none) (hc : X.calm = true) (hu : X.A.units + 64 < cLine) (he : PPE X a ta Ta) (hd : PPE X b tb Tb) (hs : starEach [a] X.env = [(false, eval a X.env)] := by rfl) : PPE X (.Call (.Name "max" p) [a] [⟨some "default", b, kp⟩] pos) (tDflt X.K max ta tb) (pDflt max Ta Tb) := ⟨pe_maxDflt hg hm hc hu he.pe hd.pe hs, snd_dflt he.snd hd.snd⟩
theorem ppe_minD {p kp : Pos} (hg : Gl X "min") (hm : X.mg "min" = none) (hc : X.calm = true) (hu : X.A.units + 64 < cLine) (he : PPE X a ta Ta) (hd : PPE X b tb Tb) (hs : starEach [a] X.env = [(false, eval a X.env)] := by rfl) : PPE X (.Call (.Name "min" p) [a] [⟨some "default", b, kp⟩] pos) (tDflt X.K min ta tb) (pDflt min Ta Tb) := ⟨pe_minDflt hg hm hc hu he.pe hd.pe hs, snd_dflt he.snd hd.snd⟩
def fInt1 : FC := fun ds Q => match ds with
  | [.int i] => Q (.int i)
  | [.bl b] => Q (.int (if b = true then 1 else 0))
  | _ => False
theorem cp_int1 {K : PySem.W.Frag} : CallP K (fun xs H Q => (∃ i, xs = [.int i] ∧ Q (.int i) H) ∨ ∃ k, xs = [.bl k] ∧ Q (.int (if k then 1 else 0)) H) fInt1 := fun F H xs ds Q R hs r hf k => by
  unfold fInt1 at hf
  split at hf
  · rw [r.int1]; exact .inl ⟨_, rfl, k _ _ _ _ (.old (.int _)) hf⟩
  · obtain ⟨v, rfl, q1⟩ := r.inv1
    have := q1.blInv
    subst this
    exact .inr ⟨_, rfl, k _ _ _ _ (.old (.int _)) hf⟩
  · exact hf.elim
def fAll : FC := fun ds Q => match ds with | [.lst xs] => ∃ bs : List Bool, xs = bs.map D.bl ∧ Q (.bl (bs.all id)) | _ => False
def fAny : FC := fun ds Q => match ds with | [.lst xs] => ∃ bs : List Bool, xs = bs.map D.bl ∧ Q (.bl (bs.any id)) | _ => False
theorem cp_all {K : PySem.W.Frag} : CallP K (rAll K) fAll := fun F H xs ds Q R hs r hf k => by
  unfold fAll at hf
  split at hf
  · obtain ⟨v, rfl, q1⟩ := r.inv1
    obtain ⟨a, vs, rfl, e, q2⟩ := q1.lstInv
    obtain ⟨bs, rfl, q⟩ := hf
    have := q2.bls
    subst this
    exact ⟨a, bs, rfl, SqL.of (hs _ _ e), k _ _ _ _ (.old (.bl _)) q⟩
  · exact hf.elim
theorem cp_any {K : PySem.W.Frag} : CallP K (rAny K) fAny := fun F H xs ds Q R hs r hf k => by
  unfold fAny at hf
  split at hf
  · obtain ⟨v, rfl, q1⟩ := r.inv1
    obtain ⟨a, vs, rfl, e, q2⟩ := q1.lstInv
    obtain ⟨bs, rfl, q⟩ := hf
    have := q2.bls
    subst this
    exact ⟨a, bs, rfl, SqL.of (hs _ _ e), k _ _ _ _ (.old (.bl _)) q⟩
  · exact hf.elim
def fSum : FC := fun ds Q => match ds with | [.lst xs] => ∃ ns : List Int, xs = ns.map D.int ∧ Q (.int ns.sum) | _ => False
theorem cp_sum {K : PySem.W.Frag} : CallP K (rSum K) fSum := fun F H xs ds Q R hs r hf k => by
  unfold fSum at hf
  split at hf
  · obtain ⟨v, rfl, q1⟩ := r.inv1
    obtain ⟨a, vs, rfl, e, q2⟩ := q1.lstInv
    obtain ⟨bs, rfl, q⟩ := hf
    have := q2.ints
    subst this
    exact ⟨a, bs, rfl, SqL.of (hs _ _ e), k _ _ _ _ (.old (.int _)) q⟩
  · exact hf.elim
def fTup : FC := fun ds Q => match ds with
  | [.lst xs] => Q (.tup xs)
  | [.tup xs] => Q (.tup xs)
  | _ => False
theorem cp_tup {K : PySem.W.Frag} : CallP K (fun xs H Q => ∃ p ys, xs = [.ref p] ∧ ((SqL K H p ys ∧ ∀ l, H l = none → Q (.ref l) (upd H l (.tup ys))) ∨ (SqT K H p ys ∧ Q (.ref p) H))) fTup := fun F H xs ds Q R hs r hf k => by
  unfold fTup at hf
  split at hf
  · obtain ⟨v, rfl, q1⟩ := r.inv1
    obtain ⟨a, vs, rfl, e, q2⟩ := q1.lstInv
    exact ⟨a, vs, rfl, .inl ⟨SqL.of (hs _ _ e), fun l hl => k _ _ _ _ (.new hl (.tup upd_same (q2.mono (same_new (hs.free hl))))) hf⟩⟩
  · obtain ⟨v, rfl, q1⟩ := r.inv1
    obtain ⟨a, vs, rfl, e, q2⟩ := q1.tupInv
    exact ⟨a, vs, rfl, .inr ⟨SqT.of (hs _ _ e), k _ _ _ _ (.old (.tup e q2)) hf⟩⟩
  · exact hf.elim
def fLst : FC := fun ds Q => match ds with
  | [.lst xs] => Q (.lst xs)
  | [.tup xs] => Q (.lst xs)
  | [.scr ns] => Q (.lst (ns.map D.int))
  | _ => False
def rLstA (K : PySem.W.Frag) : List V → Hp → VK → Prop := fun xs H Q => ∃ p ys, xs = [.ref p] ∧ (SqL K H p ys ∨ SqT K H p ys) ∧ ∀ l, H l = none → Q (.ref l) (upd H l (.lst ys))
theorem cp_lst {K : PySem.W.Frag} : CallP K (rLstA K) fLst := fun F H xs ds Q R hs r hf k => by
  unfold fLst at hf
  split at hf
  · obtain ⟨v, rfl, q1⟩ := r.inv1
    obtain ⟨a, vs, rfl, e, q2⟩ := q1.lstInv
    exact ⟨a, vs, rfl, .inl (SqL.of (hs _ _ e)), fun l hl => k _ _ _ _ (.new hl (.lst upd_same (q2.mono (same_new (hs.free hl))))) hf⟩
  · obtain ⟨v, rfl, q1⟩ := r.inv1
    obtain ⟨a, vs, rfl, e, q2⟩ := q1.tupInv
    exact ⟨a, vs, rfl, .inr (SqT.of (hs _ _ e)), fun l hl => k _ _ _ _ (.new hl (.lst upd_same (q2.mono (same_new (hs.free hl))))) hf⟩
  · obtain ⟨v, rfl, q1⟩ := r.inv1
    obtain ⟨a, rfl, e⟩ := q1.scrInv
    exact ⟨a, _, rfl, .inl (hs.seq e), fun l hl => k _ _ _ _ (.new hl (.lst upd_same (Reps.ofInts _))) hf⟩
  · exact hf.elim
/-- list(e), one's own -/
def pLstCO (T : TAp) : TCp := fun ρ Q => T ρ fun ds ρ1 => match ds with
  | [.lst xs] => ∀ a, Q (.own a xs) ρ1
  | [.tup xs] => ∀ a, Q (.own a xs) ρ1
  | _ => False
theorem ppc_list {e : Expr} {t : TA} {T : TAp} {p : Pos} (hg : Gl X "list") (hm : X.mg "list" = none) (ha : PPA X [e] t T)
    (he : starEach [e] X.env = (false, eval e X.env) :: starEach [] X.env := by rfl) : PPC X (.Call (.Name "list" p) [e] [] pos) (tCB (rLstA X.K) t) (pLstCO T) := ⟨pe_callTy call_list_of hg hm (by decide +kernel) ha.pa (by decide) (by decide) he rfl, fun G F H σ ρ Q R S hT k =>
  ha.snd G F H σ ρ _ _ S hT fun vs ds F1 H1 ρ1 u1 S1 r1 h1 => by
    match ds, r1, h1 with
    | [.lst xs], r1, h1 =>
      obtain ⟨v, rfl, q1⟩ := r1.inv1
      obtain ⟨a, ws, rfl, e, q2⟩ := q1.lstInv
      exact ⟨a, ws, rfl, .inl (SqL.of (S1.hF _ _ e)), fun l hl => k _ _ _ _ ρ1 u1 (S1.newOwn hl q2) (h1 l)⟩
    | [.tup xs], r1, h1 =>
      obtain ⟨v, rfl, q1⟩ := r1.inv1
      obtain ⟨a, ws, rfl, e, q2⟩ := q1.tupInv
      exact ⟨a, ws, rfl, .inr (SqT.of (S1.hF _ _ e)), fun l hl => k _ _ _ _ ρ1 u1 (S1.newOwn hl q2) (h1 l)⟩⟩
end
/-! ### changes of one's own list -/
section
variable {X : Cx} {e : Expr} {te : TE} {Te : TEp} {pos : Pos}
def pAppend (i : Nat) (Te : TEp) : TSp := fun P ρ => match ρ[i]? with
  | some (some (.own a _)) => Te ρ fun y ρ1 => ∃ xs1, ρ1[i]? = some (some (.own a xs1)) ∧ xs1.length < sizeLine ∧ P.nx (ρ1.set i (some (.own a (xs1 ++ [y]))))
  | _ => False
theorem pps_append (i : Nat) {x : Str} {p ap cp : Pos} (he : PPE X e te Te) (hN : X.N[i]? = some x := by rfl) (hv : Vis X.env.scope x := by first | exact Or.inl rfl | exact Or.inr (Or.inl rfl) | exact Or.inr (Or.inr rfl)) (hd : (x == ("__debug__" : Str)) = false := by decide)
    (hcd : (x == ("__classdict__" : Str)) = false := by decide)
    (hbase : attributeBase (.Name x p) "append" X.env (eval (.Name x p) X.env) = eval (.Name x p) X.env := by rfl)
    (hfew : ((backTo cp (starEach [e] X.env)).all (fun x => !x.1) && (backToKw cp (keywordEach [] X.env)).all (fun x => x.1.isSome)
      && decide ([e].length + ([] : List Keyword).length + (if ([] : List Keyword).isEmpty then 0 else 1) < 30)) = true := by rfl)
    (hline : (ap.endLine == cp.line) = true := by rfl) (hs : starEach [e] X.env = (false, eval e X.env) :: starEach [] X.env := by rfl)
    (hsw : swapsWith (.Call (.Attribute (.Name x p) "append" ap) [e] [] cp) none pos.line X.env = pure false := by rfl) :
    PPS X (.Expr (.Call (.Attribute (.Name x p) "append" ap) [e] [] cp) pos) (tDrop (tBM X.K "list" rAppend (tVar i) (tCons te tNil))) (pAppend i Te) := ⟨ps_expr (pe_bm PySem.F.plainAttrs_list PySem.F.slot_list_append PySem.F.type_list_append mt_append (pe_var hN hv hd hcd) (pa_cons he.pe pa_nil hs) hbase hfew hline hs rfl) hsw, fun G F H σ ρ P D S hT r => by
  unfold pAppend at hT
  split at hT
  · rename_i a xs e0
    obtain ⟨h1, h2, h3, vs, h4, h5⟩ := S.own i a xs e0
    refine ⟨.ref a, h1, .inl ⟨rfl, _, SqL.of h4⟩, he.snd G F H σ ρ _ _ S hT fun y dy F1 H1 ρ1 u1 S1 r1 q1 => ?_⟩
    obtain ⟨xs1, e1, hz, q⟩ := q1
    obtain ⟨g1, g2, g3, ws, g4, g5⟩ := S1.own i a xs1 e1
    exact ⟨a, ws, y, rfl, rfl, g4, by rw [g5.length]; exact hz, r.nx F1 _ _ _ u1 (S1.mut e1 (g5.append (.one r1))) q⟩
  · exact hT.elim⟩
def pStore (i : Nat) (Ti Te : TEp) : TSp := fun P ρ => Te ρ fun y ρ1 => match ρ1[i]? with
  | some (some (.own a _)) => Ti ρ1 fun k ρ2 => ∃ xs1 n j, ρ2[i]? = some (some (.own a xs1)) ∧ k = .int n ∧ ixN xs1.length n = some j ∧ P.nx (ρ2.set i (some (.own a (xs1.set j y))))
  | _ => False
theorem pps_store (i : Nat) {x : Str} {p sp : Pos} {ix : Expr} {ti : TE} {Ti : TEp} (hi : PPE X ix ti Ti) (he : PPE X e te Te) (hN : X.N[i]? = some x := by rfl) (hv : Vis X.env.scope x := by first | exact Or.inl rfl | exact Or.inr (Or.inl rfl) | exact Or.inr (Or.inr rfl)) (hd : (x == ("__debug__" : Str)) = false := by decide)
    (hcd : (x == ("__classdict__" : Str)) = false := by decide)
    (ha : ∀ v, assign (.Subscript (.Name x p) ix sp) X.env v = (do
      let ov ← holding [v] (eval (.Name x p) X.env)
      let iv ← holding [v, ov] (eval ix X.env)
      standAt sp
      holding [v, ov, iv] (setItem ov iv v)
      release [v, ov, iv] []) := by intro _; rfl)
    (hs : swapsWithSole [.Subscript (.Name x p) ix sp] e pos.line X.env = pure false := by rfl) (hw : swappedStores [.Subscript (.Name x p) ix sp] e X.env = pure none := by rfl)
    (h1 : (assignEach [.Subscript (.Name x p) ix sp] X.env).map (·.2) = [assign (.Subscript (.Name x p) ix sp) X.env] := by rfl) :
    PPS X (.Assign [.Subscript (.Name x p) ix sp] e pos) (tAsg te (gSub (tVar i) ti rSetL)) (pStore i Ti Te) := ⟨ps_asg he.pe (pg_sub (pe_var hN hv hd hcd) hi.pe set_list ha) hs hw h1, fun G F H σ ρ P D S hT r =>
  he.snd G F H σ ρ _ _ S hT fun y dy F1 H1 ρ1 u1 S1 r1 q1 => by
    have q1' : (match ρ1[i]? with
      | some (some (.own a _)) => Ti ρ1 fun k ρ2 => ∃ xs1 n j, ρ2[i]? = some (some (.own a xs1)) ∧ k = .int n ∧ ixN xs1.length n = some j ∧ P.nx (ρ2.set i (some (.own a (xs1.set j dy))))
      | _ => False) := q1
    split at q1'
    · rename_i a xs e0
      obtain ⟨h1, h2, h3, vs, h4, h5⟩ := S1.own i a xs e0
      refine ⟨.ref a, h1, hi.snd G F1 H1 σ ρ1 _ _ S1 q1' fun w dw F2 H2 ρ2 u2 S2 r2 q2 => ?_⟩
      obtain ⟨xs1, n, j, e1, rfl, ej, q⟩ := q2
      obtain ⟨g1, g2, g3, ws, g4, g5⟩ := S2.own i a xs1 e1
      have := r2.intInv
      subst this
      exact ⟨a, ws, n, j, rfl, rfl, g4, by rw [g5.length]; exact ej, r.nx F2 _ _ _ (u1.trans u2) (S2.mut e1 (g5.set (r1.mono u2.ex) j)) q⟩
    · exact q1'.elim⟩
end
end Pl
namespace Pl
open PySem PySem.Spec PyProof.Rows L2
/-! ### promises of defs, without a heap -/
abbrev FA := List D → (Cell → Prop) → Prop
abbrev FB := List D → List D → (Cell → List D → Prop) → Prop
def hide (H : Hp) (a : Addr) : Hp := fun b => if b = a then none else H b
theorem hide_same (H : Hp) (a : Addr) : Same (hide H a) H := fun b o e => by
  unfold hide at e
  by_cases h : b = a
  · rw [if_pos h] at e; cases e
  · rw [if_neg h] at e; exact e
theorem hide_ne {H : Hp} {a b : Addr} (h : b ≠ a) : hide H a b = H b := by unfold hide; rw [if_neg h]
theorem hide_at {H : Hp} {a : Addr} : hide H a a = none := by unfold hide; rw [if_pos rfl]
def spA (K : PySem.W.Frag) (n : Nat) (f : FA) : Sp := fun vs H Q _ => ∃ (F : Hp) (ds : List D) (C : Cell → Prop), vs.length = n ∧ Same F H ∧ Reps K F vs ds ∧ f ds C ∧
  ∀ v c F' H', Up H F F' → SimR K H F' H' [some v] [some c] → C c → Q v H'
def spB (K : PySem.W.Frag) (n : Nat) (f : FB) : Sp := fun vs H Q _ => ∃ (F : Hp) (a : Addr) (us : List V) (xs : List D) (ws : List V) (ds : List D) (C : Cell → List D → Prop), vs = .ref a :: ws ∧ vs.length = n ∧ Same F H ∧ F a = none ∧ H a = some (.lst us) ∧ Reps K F us xs ∧ Reps K F ws ds ∧ f xs ds C ∧
  ∀ v c xs' F' H', Up (hide H a) F F' → SimR K (hide H a) F' H' [some (.ref a), some v] [some (.own a xs'), some c] → C c xs' → Q v H'
theorem get_one {α : Type} {x y : α} {i : Nat} (h : [x][i]? = some y) : i = 0 ∧ x = y := by
  cases i with
  | zero => exact ⟨rfl, Option.some.inj h⟩
  | succ i => simp at h
section
variable [TJ]
theorem Sim.only {K : PySem.W.Frag} {G F H : Hp} {σ : L2.St} {ρ : Ro} {v : V} {c : Cell} (S : Sim K G F H (σ ++ [some v]) (ρ ++ [some c])) : SimR K G F H [some v] [some c] := by
  refine ⟨S.hF, S.hG.same, rfl, fun i d h => ?_, fun i a xs h => ?_, fun i j a xs ys h1 h2 => ?_⟩
  · obtain ⟨rfl, e⟩ := get_one h
    cases e
    exact ⟨v, rfl, S.lastVal⟩
  · obtain ⟨rfl, e⟩ := get_one h
    cases e
    obtain ⟨rfl, h2, h3, h4, h5⟩ := S.lastOwn
    exact ⟨rfl, h2, h3, h5⟩
  · rw [(get_one h1).1, (get_one h2).1]
theorem Sim.only2 {K : PySem.W.Frag} {G F H : Hp} {σ : L2.St} {ρ : Ro} {v : V} {c : Cell} {a : Addr} {xs : List D} {i : Nat} (S : Sim K G F H (σ ++ [some v]) (ρ ++ [some c])) (e : ρ[i]? = some (some (.own a xs))) : SimR K G F H [some (.ref a), some v] [some (.own a xs), some c] := by
  obtain ⟨h1, h2, h3, vs, h4, h5⟩ := S.drop.own i a xs e
  have hn : ∀ (b : Addr) (ys : List D), c = .own b ys → b ≠ a := fun b ys z w => by
    subst z w
    exact S.lastOwn.2.2.2.1 i xs e
  refine ⟨S.hF, S.hG.same, rfl, fun i d h => ?_, fun i b ys h => ?_, fun i j b ys zs q1 q2 => ?_⟩
  · match i, h with
    | 1, h => have e' : c = .val d := Option.some.inj (Option.some.inj h); subst e'; exact ⟨v, rfl, S.lastVal⟩
  · match i, h with
    | 0, h => cases h; exact ⟨rfl, h2, h3, vs, h4, h5⟩
    | 1, h =>
      have e' : c = .own b ys := Option.some.inj (Option.some.inj h)
      subst e'
      obtain ⟨rfl, g2, g3, g4, g5⟩ := S.lastOwn
      exact ⟨rfl, g2, g3, g5⟩
  · match i, j, q1, q2 with
    | 0, 0, _, _ => rfl
    | 1, 1, _, _ => rfl
    | 0, 1, q1, q2 => cases q1; exact absurd rfl (hn _ zs (Option.some.inj (Option.some.inj q2)))
    | 1, 0, q1, q2 => cases q2; exact absurd rfl (hn _ ys (Option.some.inj (Option.some.inj q1)))
/-- behind a call that changed nothing -/
theorem Sim.afterA {K : PySem.W.Frag} {G F H F' H' : Hp} {σ : L2.St} {ρ : Ro} {v : V} {c : Cell} (S : Sim K G F H σ ρ) (u : Up H F F') (S' : SimR K H F' H' [some v] [some c]) : Sim K G F' H' (σ ++ [some v]) (ρ ++ [some c]) := by
  have base : Sim K G F' H' σ ρ := by
    refine ⟨S'.hF, S.hG.up S'.hG u.out, S.len, fun i d h => ?_, fun i a xs h => ?_, S.ne⟩
    · obtain ⟨w, h1, h2⟩ := S.val i d h
      exact ⟨w, h1, h2.mono u.ex⟩
    · obtain ⟨h1, h2, h3, vs, h4, h5⟩ := S.own i a xs h
      exact ⟨h1, u.isNone h2 h4, h3, vs, S'.hG _ _ h4, h5.mono u.ex⟩
  cases c with
  | val d =>
    obtain ⟨w, h1, h2⟩ := S'.val 0 d rfl
    cases h1
    exact base.pushVal h2
  | own a xs =>
    obtain ⟨h1, h2, h3, vs, h4, h5⟩ := S'.own 0 a xs rfl
    cases h1
    refine base.pushOwn h4 h2 (S.hG.free h3) (fun i ys e => ?_) h5
    obtain ⟨_, _, _, vs', h4', _⟩ := S.own i a ys e
    rw [h3] at h4'; cases h4'
/-- behind a call that changed one own list -/
theorem Sim.afterB {K : PySem.W.Frag} {G F H F' H' : Hp} {σ : L2.St} {ρ : Ro} {v : V} {c : Cell} {i : Nat} {a : Addr} {xs xs' : List D} (S : Sim K G F H σ ρ) (e : ρ[i]? = some (some (.own a xs))) (u : Up (hide H a) F F') (S' : SimR K (hide H a) F' H' [some (.ref a), some v] [some (.own a xs'), some c]) : Sim K G F' H' (σ ++ [some v]) (ρ.set i (some (.own a xs')) ++ [some c]) := by
  obtain ⟨h1, h2, h3, vs, h4, h5⟩ := S.own i a xs e
  have hi := lt_of_get e
  obtain ⟨_, g2, g3, ws, g4, g5⟩ := S'.own 0 a xs' rfl
  have other : ∀ (j : Nat) (b : Addr) (ys : List D), ρ[j]? = some (some (.own b ys)) → j ≠ i → b ≠ a := fun j b ys q hj z => by
    subst z; exact hj (S.ne _ _ _ _ _ q e)
  have far : ∀ (j : Nat) (x : Cell), (ρ.set i (some (.own a xs')))[j]? = some (some x) → (j = i ∧ x = .own a xs') ∨ (j ≠ i ∧ ρ[j]? = some (some x)) := fun j x q => by
    by_cases hj : i = j
    · subst hj; rw [List.getElem?_set_self hi] at q; cases q; exact .inl ⟨rfl, rfl⟩
    · rw [List.getElem?_set_ne hj] at q; exact .inr ⟨fun z => hj z.symm, q⟩
  have base : Sim K G F' H' σ (ρ.set i (some (.own a xs'))) := by
    refine ⟨S'.hF, ⟨fun b o q => ?_, TJ.step S.hG.tj (fun b o q ne => ?_) fun b o q => ?_⟩, by simpa using S.len, fun j d h => ?_, fun j b ys h => ?_, fun j k b ys zs q1 q2 => ?_⟩
    · have n : b ≠ a := fun z => by subst z; rw [h3] at q; cases q
      exact S'.hG b o (by rw [hide_ne n]; exact S.hG b o q)
    · have n : b ≠ a := fun z => by subst z; rw [h4] at q; exact ne vs (Option.some.inj q).symm
      exact S'.hG b o (by rw [hide_ne n]; exact q)
    · rcases u.out b o q with z | z
      · exact .inl z
      · by_cases n : b = a
        · subst n; exact .inr (.inr ⟨vs, h4⟩)
        · rw [hide_ne n] at z; exact .inr (.inl z)
    · rcases far j _ h with ⟨_, z⟩ | ⟨_, h⟩
      · cases z
      · obtain ⟨w, k1, k2⟩ := S.val j d h
        exact ⟨w, k1, k2.mono u.ex⟩
    · rcases far j _ h with ⟨rfl, z⟩ | ⟨hj, h⟩
      · cases z; exact ⟨h1, g2, h3, ws, g4, g5⟩
      · obtain ⟨k1, k2, k3, us, k4, k5⟩ := S.own j b ys h
        have n := other j b ys h hj
        have k4' : hide H a b = some (.lst us) := by rw [hide_ne n]; exact k4
        exact ⟨k1, u.isNone k2 k4', k3, us, S'.hG _ _ k4', k5.mono u.ex⟩
    · rcases far j _ q1 with ⟨f1, z1⟩ | ⟨hj, p1⟩
      · rcases far k _ q2 with ⟨f2, _⟩ | ⟨hk, p2⟩
        · rw [f1, f2]
        · cases z1; exact absurd rfl (other k _ zs p2 hk)
      · rcases far k _ q2 with ⟨f2, z2⟩ | ⟨hk, p2⟩
        · cases z2; exact absurd rfl (other j _ ys p1 hj)
        · exact S.ne _ _ _ _ _ p1 p2
  cases c with
  | val d =>
    obtain ⟨w, k1, k2⟩ := S'.val 1 d rfl
    cases k1
    exact base.pushVal k2
  | own b ys =>
    obtain ⟨k1, k2, k3, us, k4, k5⟩ := S'.own 1 b ys rfl
    cases k1
    have n : b ≠ a := fun z => by subst z; exact absurd (S'.ne 0 1 b xs' ys rfl rfl) (by decide)
    have hb : H b = none := (hide_ne (H := H) n).symm.trans k3
    refine base.pushOwn k4 k2 (S.hG.free hb) (fun j zs q => ?_) k5
    rcases far j _ q with ⟨_, z⟩ | ⟨_, q⟩
    · cases z; exact n rfl
    · obtain ⟨_, _, _, vs', h4', _⟩ := S.own j b zs q
      rw [hb] at h4'; cases h4'
end
section
variable [TJ] {X : Cx} {k : Nat} {f : Addr} {fd : FuncData} {ps : List Str} {x : Str} {p pos : Pos} {e : Expr} {es : List Expr} {t : TA} {T : TAp} {n : Nat}
/-- f(e, ..): all that is handed in is frozen -/
def pCallA (n : Nat) (g : FA) (T : TAp) : TCp := fun ρ Q => T ρ fun ds ρ1 => ds.length = n ∧ g ds fun c => Q c ρ1
theorem ppc_callA {g : FA} (Fn : FnOk X.prog X.w X.K X.mg X.base CX0 k f fd ps (spA X.K n g)) (hr : Room k X.A) (hg : Gl X x) (hm : X.mg x = some (.ref f)) (hk : PySem.W.keepIn X.K (.ref f) = true) (hb : Binds X.K fd ps []) (ha : PPA X (e :: es) t T)
    (hdb : (x == ("__debug__" : Str)) = false := by decide) (he : starEach (e :: es) X.env = (false, eval e X.env) :: starEach es X.env := by rfl) (hpl : (backTo pos (starEach es X.env)).any (·.1) = false := by rfl) :
    PPC X (.Call (.Name x p) (e :: es) [] pos) (tCall (spA X.K n g) [] (fun _ _ _ => False) t) (pCallA n g T) := ⟨pe_call Fn hr hg hm hk hb .nil pass0 ha.pa hdb he hpl, fun G F H σ ρ Q R S hT k =>
  ha.snd G F H σ ρ _ _ S hT fun vs ds F1 H1 ρ1 u1 S1 r1 h1 => by
    show spA X.K n g (vs ++ []) H1 R _
    rw [List.append_nil]
    exact ⟨F1, ds, _, by rw [r1.length]; exact h1.1, S1.hF, r1, h1.2, fun v c F' H' u S' q => k v c F' H' ρ1 (u1.trans (u.less S1.hG)) (S1.afterA u S') q⟩⟩
/-- f(name, e, ..): the name's list is one's own and may be changed -/
def pCallB (i n : Nat) (g : FB) (T : TAp) : TCp := fun ρ Q => match ρ[i]? with
  | some (some (.own a _)) => T ρ fun ds ρ1 => ∃ xs1, ρ1[i]? = some (some (.own a xs1)) ∧ ds.length + 1 = n ∧ g xs1 ds fun c xs2 => Q c (ρ1.set i (some (.own a xs2)))
  | _ => False
theorem ppc_callB (i : Nat) {y : Str} {py : Pos} {g : FB} (Fn : FnOk X.prog X.w X.K X.mg X.base CX0 k f fd ps (spB X.K n g)) (hr : Room k X.A) (hg : Gl X x) (hm : X.mg x = some (.ref f)) (hk : PySem.W.keepIn X.K (.ref f) = true) (hb : Binds X.K fd ps []) (ha : PPA X es t T)
    (hN : X.N[i]? = some y := by rfl) (hv : Vis X.env.scope y := by first | exact Or.inl rfl | exact Or.inr (Or.inl rfl) | exact Or.inr (Or.inr rfl)) (hd : (y == ("__debug__" : Str)) = false := by decide) (hcd : (y == ("__classdict__" : Str)) = false := by decide)
    (hdb : (x == ("__debug__" : Str)) = false := by decide) (he : starEach (.Name y py :: es) X.env = (false, eval (.Name y py) X.env) :: starEach es X.env := by rfl) (hpl : (backTo pos (starEach es X.env)).any (·.1) = false := by rfl) :
    PPC X (.Call (.Name x p) (.Name y py :: es) [] pos) (tCall (spB X.K n g) [] (fun _ _ _ => False) (tCons (tVar i) t)) (pCallB i n g T) := ⟨pe_call Fn hr hg hm hk hb .nil pass0 (pa_cons (pe_var hN hv hd hcd) ha.pa he) hdb he hpl, fun G F H σ ρ Q R S hT k => by
  unfold pCallB at hT
  split at hT
  · rename_i a xs e0
    refine ⟨.ref a, (S.own i a xs e0).1, ha.snd G F H σ ρ _ _ S hT fun vs ds F1 H1 ρ1 u1 S1 r1 h1 => ?_⟩
    obtain ⟨xs1, e1, hn, q1⟩ := h1
    obtain ⟨h1, h2, h3, us, h4, h5⟩ := S1.own i a xs1 e1
    show spB X.K n g ((.ref a :: vs) ++ []) H1 R _
    rw [List.append_nil]
    refine ⟨F1, a, us, xs1, vs, ds, _, rfl, by rw [List.length_cons, r1.length]; exact hn, S1.hF, h2, h4, h5, r1, q1, fun v c xs' F' H' u S' q => ?_⟩
    have hGh : Same G (hide H1 a) := fun b o qq => by
      have nb : b ≠ a := fun z => by rw [z, h3] at qq; cases qq
      rw [hide_ne nb]; exact S1.hG b o qq
    exact k v c F' H' _ (u1.trans (u.less hGh)) (S1.afterB e1 u S') q
  · exact hT.elim⟩
end
/-! ### a def keeps its promise -/
section
variable {P : Program} {w : World} {K : PySem.W.Frag} {mg : Str → Option Value} {base : Heap} {x qual : Str} {st : Stmt} {f : Addr} {fd : FuncData} {N ps : List Str} {k : Nat}
def startA (N : List Str) (ds : List D) : Ro := ds.map (fun d => some (.val d)) ++ List.replicate (N.length - ds.length) none
def startB (N : List Str) (a : Addr) (xs : List D) (ds : List D) : Ro := some (.own a xs) :: (ds.map (fun d => some (.val d)) ++ List.replicate (N.length - (ds.length + 1)) none)
theorem sim_vals [TJ] {K : PySem.W.Frag} {G F H : Hp} (hF : Same F H) (hG : SameJ G F H) {vs : List V} {ds : List D} (r : Reps K F vs ds) (m : Nat) : Sim K G F H (vs.map some ++ List.replicate m none) (ds.map (fun d => some (.val d)) ++ List.replicate m none) := by
  have key : ∀ (i : Nat) (c : Cell), (ds.map (fun d => some (Cell.val d)) ++ List.replicate m none)[i]? = some (some c) → ∃ d, c = .val d ∧ ds[i]? = some d := fun i c h => by
    rcases Nat.lt_or_ge i ds.length with q | q
    · rw [List.getElem?_append_left (by simpa using q), List.getElem?_map, List.getElem?_eq_getElem q] at h
      exact ⟨ds[i], (Option.some.inj (Option.some.inj h)).symm, List.getElem?_eq_getElem q⟩
    · rw [List.getElem?_append_right (by simpa using q), List.getElem?_replicate] at h
      split at h <;> cases h
  refine ⟨hF, hG, by simp [r.length], fun i d h => ?_, fun i a xs h => ?_, fun i j a xs ys h1 h2 => ?_⟩
  · obtain ⟨d', e, hd⟩ := key i _ h
    cases e
    obtain ⟨v, hv, rv⟩ := r.get hd
    refine ⟨v, ?_, rv⟩
    have q : i < vs.length := lt_of_get hv
    rw [List.getElem?_append_left (by simpa using q), List.getElem?_map, hv]
    rfl
  · obtain ⟨d', e, _⟩ := key i _ h
    cases e
  · obtain ⟨d', e, _⟩ := key i _ h1
    cases e
theorem Sim.cons_own [TJ] {K : PySem.W.Frag} {G F H : Hp} {σ : L2.St} {ρ : Ro} (S : Sim K G F H σ ρ) {a : Addr} {vs : List V} {xs : List D} (hH : H a = some (.lst vs)) (hF : F a = none) (hG : G a = none) (hn : NotOwn ρ a) (r : Reps K F vs xs) :
    Sim K G F H (some (.ref a) :: σ) (some (.own a xs) :: ρ) := by
  refine ⟨S.hF, S.hG, by simp [S.len], fun i d h => ?_, fun i b ys h => ?_, fun i j b ys zs h1 h2 => ?_⟩
  · cases i with
    | zero => cases h
    | succ i => exact S.val i d h
  · cases i with
    | zero => cases h; exact ⟨rfl, hF, hG, vs, hH, r⟩
    | succ i => exact S.own i b ys h
  · cases i with
    | zero =>
      cases j with
      | zero => rfl
      | succ j => cases h1; exact absurd h2 (hn j zs)
    | succ i =>
      cases j with
      | zero => cases h2; exact absurd h1 (hn i ys)
      | succ j => rw [S.ne i j b ys zs h1 h2]
theorem notOwn_vals {ds : List D} {m : Nat} {a : Addr} : NotOwn (ds.map (fun d => some (Cell.val d)) ++ List.replicate m none) a := fun i xs h => by
  rcases Nat.lt_or_ge i ds.length with q | q
  · rw [List.getElem?_append_left (by simpa using q), List.getElem?_map, List.getElem?_eq_getElem q] at h
    cases h
  · rw [List.getElem?_append_right (by simpa using q), List.getElem?_replicate] at h
    split at h <;> cases h
theorem okA {g : FA} {T : TSp} (Fn : Fun K x qual st f fd) (S : FnScope N ps (defScope st))
    (hb : ∀ (cdv : Value) (A : Around) (outer : List Env) (s : Shared) (H : Hp) (E : XK), Room k (A.deeper (envOfC qual (defScope st) s.heap.objs.size f cdv)) → ∃ t, PPSs (cxOf CX0 P w K mg base N qual (defScope st) f cdv A outer s H E).nox (defBody st) t T)
    (hT : ∀ ds C, ds.length = ps.length → g ds C → T { nx := fun _ => C (.val .non), rt := fun c _ => C c } (startA N ds)) : FnOk P w K mg base CX0 (k + 1) f fd ps (spA K ps.length g) := by
  refine Fn.ok S (fun vs H Q E h => ?_) (fun cdv A outer s H vs Q E hr h => ?_)
  · obtain ⟨F, ds, C, hl, _⟩ := h
    exact hl
  · obtain ⟨F, ds, C, hl, hF, r, hg, hQ⟩ := h
    obtain ⟨t, ht⟩ := hb cdv A outer s H E hr
    refine ⟨t, ht.ps, ?_⟩
    have S0 : Sim K H F H (L2.start N vs) (startA N ds) := by
      unfold L2.start startA
      rw [r.length]
      exact sim_vals hF (.rfl' F H) r _
    refine ht.snd H F H _ _ _ _ S0 (hT ds C (by rw [← r.length]; exact hl) hg) ⟨fun F' H' σ' ρ' u S' q => ?_, fun F' H' σ' ρ' v c u S' q => hQ v c F' H' u S'.only q, fun _ _ _ _ _ _ q => q, fun _ _ _ _ _ _ q => q⟩
    exact hQ .non (.val .non) F' H' u ((S'.pushVal .non).only) q
theorem okB {g : FB} {T : TSp} (Fn : Fun K x qual st f fd) (S : FnScope N ps (defScope st))
    (hb : ∀ (cdv : Value) (A : Around) (outer : List Env) (s : Shared) (H : Hp) (E : XK), Room k (A.deeper (envOfC qual (defScope st) s.heap.objs.size f cdv)) → ∃ t, PPSs (cxOf CX0 P w K mg base N qual (defScope st) f cdv A outer s H E).nox (defBody st) t T)
    (hT : ∀ a xs ds C, ds.length + 1 = ps.length → g xs ds C → T { nx := fun ρ => ∃ ys, ρ[0]? = some (some (.own a ys)) ∧ C (.val .non) ys, rt := fun c ρ => ∃ ys, ρ[0]? = some (some (.own a ys)) ∧ C c ys } (startB N a xs ds)) : FnOk P w K mg base CX0 (k + 1) f fd ps (spB K ps.length g) := by
  refine Fn.ok S (fun vs H Q E h => ?_) (fun cdv A outer s H vs Q E hr h => ?_)
  · obtain ⟨F, a, us, xs, ws, ds, C, _, hl, _⟩ := h
    exact hl
  · obtain ⟨F, a, us, xs, ws, ds, C, rfl, hl, hF, hFa, hHa, r1, r2, hg, hQ⟩ := h
    obtain ⟨t, ht⟩ := hb cdv A outer s H E hr
    refine ⟨t, ht.ps, ?_⟩
    have S0 : Sim K (hide H a) F H (L2.start N (.ref a :: ws)) (startB N a xs ds) := by
      unfold L2.start startB
      rw [List.length_cons, r2.length]
      exact (sim_vals hF (.of (hide_same H a)) r2 _).cons_own hHa hFa hide_at notOwn_vals r1
    refine ht.snd (hide H a) F H _ _ _ _ S0 (hT a xs ds C (by rw [← r2.length]; exact hl) hg) ⟨fun F' H' σ' ρ' u S' q => ?_, fun F' H' σ' ρ' v c u S' q => ?_, fun _ _ _ _ _ _ q => q, fun _ _ _ _ _ _ q => q⟩
    · obtain ⟨ys, e, q⟩ := q
      exact hQ .non (.val .non) ys F' H' u ((S'.pushVal .non).only2 e) q
    · obtain ⟨ys, e, q⟩ := q
      exact hQ v c ys F' H' u (S'.only2 e) q
end
end Pl
namespace Pl
open PySem PySem.Spec PyProof.Rows L2
variable [TJ]
/-! ### one reading by values for each reading without a heap -/
def liftE (K : PySem.W.Frag) (T : TEp) : TE := fun σ H R => ∃ (G F : Hp) (ρ : Ro) (Q : D → Ro → Prop), Sim K G F H σ ρ ∧ T ρ Q ∧ ∀ v d F' H' ρ', Up G F F' → Sim K G F' H' σ ρ' → Rep K F' v d → Q d ρ' → R v H'
def liftT (K : PySem.W.Frag) (T : TTp) : TT := fun σ H R => ∃ (G F : Hp) (ρ : Ro) (Q : Bool → Ro → Prop), Sim K G F H σ ρ ∧ T ρ Q ∧ ∀ b F' H' ρ', Up G F F' → Sim K G F' H' σ ρ' → Q b ρ' → R b H'
def liftG (K : PySem.W.Frag) (T : TGp) (is : List Nat) : TG := fun v σ H R => ∃ (G F : Hp) (ρ : Ro) (Q : Ro → Prop) (d : D), Sim K G F H σ ρ ∧ Rep K F v d ∧ T d ρ Q ∧ ∀ F' H' σ' ρ', Up G F F' → Sim K G F' H' σ' ρ' → (∀ j, j ∉ is → σ'[j]? = σ[j]?) → σ'.length = σ.length → Q ρ' → R σ' H'
section
variable {X : Cx}
theorem PPE.lift {e : Expr} {t : TE} {T : TEp} (h : PPE X e t T) : PPE X e (liftE X.K T) T :=
  ⟨⟨fun pins s σ H Q I ⟨G, F, ρ, Q', S, hT, k⟩ => h.pe.run pins s σ H Q I (h.snd G F H σ ρ Q' Q S hT k)⟩, fun G F H σ ρ Q R S hT k => ⟨G, F, ρ, Q, S, hT, k⟩⟩
theorem PPTs.lift {es : List Expr} {t : TT} {T : TTp} (h : PPTs X es t T) : PPTs X es (liftT X.K T) T :=
  ⟨⟨fun pins s σ H Q I ⟨G, F, ρ, Q', S, hT, k⟩ => h.pt.run pins s σ H Q I (h.snd G F H σ ρ Q' Q S hT k)⟩, fun G F H σ ρ Q R S hT k => ⟨G, F, ρ, Q, S, hT, k⟩⟩
theorem PTg.lift {tg : Expr} {g : TG} {T : TGp} {is : List Nat} (h : PTg X tg g T is) : PTg X tg (liftG X.K T is) T is :=
  ⟨⟨fun pins s σ H v u Q I r ⟨G, F, ρ, Q', d, S, rd, hT, k⟩ => h.pg.run pins s σ H v u Q I r (h.snd G F H σ ρ Q' Q v d S rd hT k)⟩, fun G F H σ ρ Q R v d S r hT k => ⟨G, F, ρ, Q, d, S, r, hT, k⟩⟩
end
section
variable {X : Cx} {elt tg iter : Expr} {ifs : List Expr} {scope : Scope} {own : List (Str × Nat)} {pos : Pos} {wi : TI} {Ti : TAp} {Gp : TGp} {is : List Nat} {Tt : TTp} {Te : TEp} {vs : List Nat}
theorem ppc_lcL (hc : X.calm = true) (hN : X.N.Nodup) (hi : PPI X tg iter wi Ti) (ok : BlkOk X.N X.env.scope scope own)
    (hg : ∀ (s : Shared) (H : Hp) (C : Addr) (cl : List (Str × Addr)) (fp : List Addr), PTg (X.blk s H scope (compEnvC scope cl C X.env) fp) tg (liftG X.K Gp is) Gp is) (ht : ∀ (s : Shared) (H : Hp) (C : Addr) (cl : List (Str × Addr)) (fp : List Addr), PPTs (X.blk s H scope (compEnvC scope cl C X.env) fp) ifs (liftT X.K Tt) Tt)
    (he : ∀ (s : Shared) (H : Hp) (C : Addr) (cl : List (Str × Addr)) (fp : List Addr), PPE (X.blk s H scope (compEnvC scope cl C X.env) fp) elt (liftE X.K Te) Te) (hs : ∀ x, foldedSetIterable iter X.env x = pure x := by intro _; rfl) (hsub : ∀ i ∈ is, i ∈ own.map (·.2) := by decide) :
    PPC X (.ListComp elt [⟨tg, iter, ifs, 0⟩] scope pos) (tLc wi (liftG X.K Gp is) (liftT X.K Tt) (liftE X.K Te) (own.map (·.2))) (pLcO Ti Gp Tt Te (own.map (·.2))) := ppc_lc hc hN hi ok hg ht he hs hsub
theorem ppe_lcL (hc : X.calm = true) (hN : X.N.Nodup) (hi : PPI X tg iter wi Ti) (ok : BlkOk X.N X.env.scope scope own)
    (hg : ∀ (s : Shared) (H : Hp) (C : Addr) (cl : List (Str × Addr)) (fp : List Addr), PTg (X.blk s H scope (compEnvC scope cl C X.env) fp) tg (liftG X.K Gp is) Gp is) (ht : ∀ (s : Shared) (H : Hp) (C : Addr) (cl : List (Str × Addr)) (fp : List Addr), PPTs (X.blk s H scope (compEnvC scope cl C X.env) fp) ifs (liftT X.K Tt) Tt)
    (he : ∀ (s : Shared) (H : Hp) (C : Addr) (cl : List (Str × Addr)) (fp : List Addr), PPE (X.blk s H scope (compEnvC scope cl C X.env) fp) elt (liftE X.K Te) Te) (hs : ∀ x, foldedSetIterable iter X.env x = pure x := by intro _; rfl) (hsub : ∀ i ∈ is, i ∈ own.map (·.2) := by decide) :
    PPE X (.ListComp elt [⟨tg, iter, ifs, 0⟩] scope pos) (tLc wi (liftG X.K Gp is) (liftT X.K Tt) (liftE X.K Te) (own.map (·.2))) (pLc Ti Gp Tt Te (own.map (·.2))) := ppe_lc hc hN hi ok hg ht he hs hsub
theorem pps_setLcL {i : Nat} {y : Str} {py spos : Pos} (hc : X.calm = true) (hN : X.N.Nodup) (hi : PPI X tg iter wi Ti) (ok : BlkOk X.N X.env.scope scope own)
    (hg : ∀ (s : Shared) (H : Hp) (C : Addr) (cl : List (Str × Addr)) (fp : List Addr), PTg (X.blk s H scope (compEnvC scope cl C X.env) fp) tg (liftG X.K Gp is) Gp is) (ht : ∀ (s : Shared) (H : Hp) (C : Addr) (cl : List (Str × Addr)) (fp : List Addr), PPTs (X.blk s H scope (compEnvC scope cl C X.env) fp) ifs (liftT X.K Tt) Tt)
    (he : ∀ (s : Shared) (H : Hp) (C : Addr) (cl : List (Str × Addr)) (fp : List Addr), PPE (X.blk s H scope (compEnvC scope cl C X.env) fp) elt (liftE X.K Te) Te)
    (hy : X.N[i]? = some y := by rfl) (hyl : X.env.scope.names.lookup y = some .local := by rfl)
    (hsw : swapsWith (.ListComp elt [⟨tg, iter, ifs, 0⟩] scope pos) (some (.Name y py)) spos.line X.env = pure true := by exact sw_true rfl rfl rfl (by decide +kernel)) (hs : ∀ x, foldedSetIterable iter X.env x = pure x := by intro _; rfl) (hsub : ∀ i ∈ is, i ∈ own.map (·.2) := by decide) :
    PPS X (.Assign [.Name y py] (.ListComp elt [⟨tg, iter, ifs, 0⟩] scope pos) spos) (tAsg (tLc wi (liftG X.K Gp is) (liftT X.K Tt) (liftE X.K Te) (own.map (·.2))) (gName i)) (pSet i (pLcO Ti Gp Tt Te (own.map (·.2)))) := pps_setLc hc hN hi ok hg ht he hy hyl hsw hs hsub
end
theorem hu64 {k : Nat} {A : Around} (hr : Room k A) : A.units + 64 < cLine := by have := hr.un; omega
end Pl
namespace Pl
open PySem PySem.Spec PyProof.Rows L2
/-! ### words for readings -/
theorem ifB {b : Bool} {A B : Prop} (h1 : b = true → A) (h2 : b = false → B) : if b = true then A else B := by
  cases b with
  | true => exact ite_ti (h1 rfl)
  | false => exact ite_fi (h2 rfl)
theorem ifT {b : Bool} {A B : Prop} (h : b = true) (h1 : A) : if b = true then A else B := by subst h; exact ite_ti h1
theorem ifF {b : Bool} {A B : Prop} (h : b = false) (h1 : B) : if b = true then A else B := by subst h; exact ite_fi h1
theorem dT {p : Prop} [Decidable p] (h : decide p = true) : p := of_decide_eq_true h
theorem dF {p : Prop} [Decidable p] (h : decide p = false) : ¬ p := of_decide_eq_false h
theorem sl1000 {n : Nat} (h : n ≤ 1000) : n ≤ sizeLine := Nat.le_of_lt (small1000 h)
theorem for_inv {g : TGp} {tb : TSp} {P : PEnds} (I : List D → Ro → Prop) (hs : ∀ (d : D) (r : List D) (ρ : Ro) (K : Ro → Prop), (∀ ρ', I r ρ' → K ρ') → I (d :: r) ρ → g d ρ fun ρ1 => tb { P with nx := K, ct := K, bk := P.nx } ρ1)
    (he : ∀ ρ, I [] ρ → P.nx ρ) : ∀ (ds : List D) (ρ : Ro), I ds ρ → forW g tb P ds ρ
  | [], ρ, h => he ρ h
  | d :: ds, ρ, h => hs d ds ρ _ (fun ρ' h' => for_inv I hs he ds ρ' h') h
theorem lcW_inv {vs : List Nat} {g : TGp} {tt : TTp} {te : TEp} {Q : List D → Ro → Prop} (I : List D → List D → Ro → Prop)
    (hs : ∀ (d : D) (r acc : List D) (ρ : Ro) (K : List D → Ro → Prop), (∀ acc' ρ', I r acc' ρ' → K acc' ρ') → I (d :: r) acc ρ → g d (wipeP ρ vs) fun ρ2 => tt ρ2 fun b ρ3 => if b = true then te ρ3 fun y ρ4 => acc.length < sizeLine ∧ K (acc ++ [y]) (restore ρ ρ4 vs) else K acc (restore ρ ρ3 vs))
    (he : ∀ acc ρ, I [] acc ρ → Q acc ρ) : ∀ (ds acc : List D) (ρ : Ro), I ds acc ρ → lcW vs g tt te Q ds acc ρ
  | [], acc, ρ, h => he acc ρ h
  | d :: ds, acc, ρ, h => hs d ds acc ρ (fun acc' ρ' => lcW vs g tt te Q ds acc' ρ') (fun acc' ρ' h' => lcW_inv I hs he ds acc' ρ' h') h
/-- each item gives one, the slots stay -/
def ElemOk (vs : List Nat) (g : TGp) (te : TEp) (ρ : Ro) (d y : D) : Prop := ∀ K : D → Ro → Prop, (∀ ρ4, restore ρ ρ4 vs = ρ → K y ρ4) → g d (wipeP ρ vs) fun ρ2 => te ρ2 K
theorem lcW_map {vs : List Nat} {g : TGp} {te : TEp} {Q : List D → Ro → Prop} {f : D → D} {ρ : Ro} : ∀ (ds acc : List D), (∀ d ∈ ds, ElemOk vs g te ρ d (f d)) → acc.length + ds.length ≤ 1000 → Q (acc ++ ds.map f) ρ → lcW vs g pYes te Q ds acc ρ
  | [], acc, _, _, hQ => by
    have hQ : Q (acc ++ []) ρ := hQ
    rw [List.append_nil] at hQ
    exact hQ
  | d :: ds, acc, h, hl, hQ => by
    have hl' : acc.length + (ds.length + 1) ≤ 1000 := hl
    refine h d (by simp) _ fun ρ4 e => ⟨small1000 (by omega), ?_⟩
    rw [e]
    refine lcW_map ds _ (fun x hx => h x (by simp [hx])) (by rw [List.length_append]; show acc.length + 1 + ds.length ≤ 1000; omega) ?_
    rw [List.append_assoc]
    exact hQ
abbrev dI (ns : List Int) : List D := ns.map D.int
theorem ints_len (ns : List Int) : (dI ns).length = ns.length := by simp
theorem lcW_ints {vs : List Nat} {g : TGp} {te : TEp} {Q : List D → Ro → Prop} {h : Int → D} {ρ : Ro} {ns : List Int} (hs : ∀ x ∈ ns, ElemOk vs g te ρ (.int x) (h x)) (hl : ns.length ≤ 1000) (hQ : Q (ns.map h) ρ) : lcW vs g pYes te Q (dI ns) [] ρ := by
  refine lcW_map (f := fun d => match d with | .int x => h x | _ => .non) (dI ns) [] (fun d hd => ?_) (by simpa using hl) ?_
  · obtain ⟨x, hx, rfl⟩ := List.mem_map.mp hd
    exact hs x hx
  · rw [List.nil_append, List.map_map]
    exact hQ
theorem zipD_ints : ∀ (a b : List Int), zipD (dI a) (dI b) = List.zipWith (fun x y => .tup [.int x, .int y]) a b
  | [], _ => rfl
  | _ :: _, [] => rfl
  | x :: a, y :: b => by
    show D.tup [.int x, .int y] :: zipD (dI a) (dI b) = _
    rw [zipD_ints a b]; rfl
theorem mem_zipWith {α β γ : Type} {f : α → β → γ} : ∀ {a : List α} {b : List β} {z : γ}, z ∈ List.zipWith f a b → ∃ x y, x ∈ a ∧ y ∈ b ∧ z = f x y
  | [], _, _, h => by simp at h
  | _ :: _, [], _, h => by simp at h
  | x :: a, y :: b, z, h => by
    rw [List.zipWith_cons_cons] at h
    rcases List.mem_cons.mp h with e | h
    · exact ⟨x, y, by simp, by simp, e⟩
    · obtain ⟨u, v, hu, hv, e⟩ := mem_zipWith h
      exact ⟨u, v, by simp [hu], by simp [hv], e⟩
theorem lcW_z2 {vs : List Nat} {g : TGp} {te : TEp} {Q : List D → Ro → Prop} {h : Int → Int → D} {ρ : Ro} {a b : List Int} (hs : ∀ x ∈ a, ∀ y ∈ b, ElemOk vs g te ρ (.tup [.int x, .int y]) (h x y)) (hl : a.length ≤ 1000) (hQ : Q (List.zipWith h a b) ρ) : lcW vs g pYes te Q (zipD (dI a) (dI b)) [] ρ := by
  rw [zipD_ints]
  refine lcW_map (f := fun d => match d with | .tup [.int x, .int y] => h x y | _ => .non) _ [] (fun d hd => ?_) ?_ ?_
  · obtain ⟨x, y, hx, hy, rfl⟩ := mem_zipWith hd
    exact hs x hx y hy
  · simp; omega
  · rw [List.nil_append, List.map_zipWith]
    exact hQ
def zip3 {α : Type} (h : Int → Int → Int → α) : List Int → List Int → List Int → List α
  | x :: a, y :: b, z :: c => h x y z :: zip3 h a b c
  | _, _, _ => []
theorem zip3D_ints : ∀ (a b c : List Int), zip3D (dI a) (dI b) (dI c) = zip3 (fun x y z => .tup [.int x, .int y, .int z]) a b c
  | [], _, _ => rfl
  | _ :: _, [], _ => rfl
  | _ :: _, _ :: _, [] => rfl
  | x :: a, y :: b, z :: c => by
    show D.tup [.int x, .int y, .int z] :: zip3D (dI a) (dI b) (dI c) = _
    rw [zip3D_ints a b c]; rfl
theorem mem_zip3 {α : Type} {h : Int → Int → Int → α} : ∀ {a b c : List Int} {w : α}, w ∈ zip3 h a b c → ∃ x y z, x ∈ a ∧ y ∈ b ∧ z ∈ c ∧ w = h x y z
  | [], _, _, _, h => by simp [zip3] at h
  | _ :: _, [], _, _, h => by simp [zip3] at h
  | _ :: _, _ :: _, [], _, h => by simp [zip3] at h
  | x :: a, y :: b, z :: c, w, hw => by
    rw [zip3] at hw
    rcases List.mem_cons.mp hw with e | hw
    · exact ⟨x, y, z, by simp, by simp, by simp, e⟩
    · obtain ⟨u, v, t, hu, hv, ht, e⟩ := mem_zip3 hw
      exact ⟨u, v, t, by simp [hu], by simp [hv], by simp [ht], e⟩
theorem zip3_map {α β : Type} {h : Int → Int → Int → α} {f : α → β} : ∀ (a b c : List Int), (zip3 h a b c).map f = zip3 (fun x y z => f (h x y z)) a b c
  | [], _, _ => rfl
  | _ :: _, [], _ => rfl
  | _ :: _, _ :: _, [] => rfl
  | x :: a, y :: b, z :: c => by simp [zip3, zip3_map a b c]
theorem zip3_len {α : Type} {h : Int → Int → Int → α} : ∀ (a b c : List Int), (zip3 h a b c).length ≤ a.length
  | [], _, _ => by simp [zip3]
  | _ :: _, [], _ => by simp [zip3]
  | _ :: _, _ :: _, [] => by simp [zip3]
  | x :: a, y :: b, z :: c => by have := zip3_len (h := h) a b c; simp [zip3]; omega
theorem lcW_z3 {vs : List Nat} {g : TGp} {te : TEp} {Q : List D → Ro → Prop} {h : Int → Int → Int → D} {ρ : Ro} {a b c : List Int} (hs : ∀ x ∈ a, ∀ y ∈ b, ∀ z ∈ c, ElemOk vs g te ρ (.tup [.int x, .int y, .int z]) (h x y z)) (hl : a.length ≤ 1000) (hQ : Q (zip3 h a b c) ρ) : lcW vs g pYes te Q (zip3D (dI a) (dI b) (dI c)) [] ρ := by
  rw [zip3D_ints]
  refine lcW_map (f := fun d => match d with | .tup [.int x, .int y, .int z] => h x y z | _ => .non) _ [] (fun d hd => ?_) ?_ ?_
  · obtain ⟨x, y, z, hx, hy, hz, rfl⟩ := mem_zip3 hd
    exact hs x hx y hy z hz
  · have := zip3_len (h := fun x y z => D.tup [.int x, .int y, .int z]) a b c; simp; omega
  · rw [List.nil_append, zip3_map]
    exact hQ
/-- a row of numbers, as a tuple or a list -/
def Sq (d : D) (ns : List Int) : Prop := d = .tup (dI ns) ∨ d = .lst (dI ns)
theorem cutD_from1 (xs : List D) : cutD xs (some 1) none = xs.drop 1 := by
  unfold cutD
  rw [show HT.sIx xs.length 0 (some 1) = min 1 xs.length from HT.sIx_nat xs.length 0 1, HT.sIx_none]
  cases xs with
  | nil => rfl
  | cons x r =>
    rw [show min 1 (x :: r).length = 1 by rw [List.length_cons]; omega]
    show (List.take ((x :: r).length - 1) r) = r
    rw [List.length_cons, Nat.add_sub_cancel]
    exact List.take_length
theorem drop1_ints (ns : List Int) : (dI ns).drop 1 = dI (ns.drop 1) := List.map_drop.symm
theorem atI_zero {α : Type} (x : α) (r : List α) : atI (x :: r) 0 = some x := atI_nat (j := 0) rfl
end Pl
namespace Pl
open PySem PySem.Spec PyProof.Rows L2
theorem fnNoneB {P : Program} {w : World} {K : PySem.W.Frag} {mg : Str → Option Value} {base : Heap} {k n : Nat} {x qual : Str} {st : Stmt} {f : Addr} {fd : FuncData} {ps : List Str} (_ : Fun K x qual st f fd) : FnOk P w K mg base CX0 k f fd ps (spB K n fun _ _ _ => False) :=
  ⟨fun _ _ _ _ ⟨_, _, _, _, _, _, _, _, _, _, _, _, _, _, h, _⟩ => h.elim, fun _ _ _ _ _ _ _ _ _ _ _ _ _ ⟨_, _, _, _, _, _, _, _, _, _, _, _, _, _, h, _⟩ => h.elim⟩
theorem fnNoneA {P : Program} {w : World} {K : PySem.W.Frag} {mg : Str → Option Value} {base : Heap} {k n : Nat} {x qual : Str} {st : Stmt} {f : Addr} {fd : FuncData} {ps : List Str} (_ : Fun K x qual st f fd) : FnOk P w K mg base CX0 k f fd ps (spA K n fun _ _ => False) :=
  ⟨fun _ _ _ _ ⟨_, _, _, _, _, _, h, _⟩ => h.elim, fun _ _ _ _ _ _ _ _ _ _ _ _ _ ⟨_, _, _, _, _, _, h, _⟩ => h.elim⟩
end Pl
namespace Pl
open PySem PySem.Spec PyProof.Rows L2
variable [TJ]
/-! ### isinstance -/
def tyN : D → String
  | .non => "NoneType"
  | .bl _ => "bool"
  | .int _ => "int"
  | .str _ => "str"
  | .lst _ => "list"
  | .tup _ => "tuple"
  | .scr _ => "list"
  | .adr _ => "list"
  | .exc _ _ => "object"
def D.isInt : D → Bool
  | .int _ => true
  | .bl _ => true
  | _ => false
def D.isBl : D → Bool
  | .bl _ => true
  | _ => false
def D.isStr : D → Bool
  | .str _ => true
  | _ => false
def D.isLst : D → Bool
  | .lst _ => true
  | .scr _ => true
  | .adr _ => true
  | _ => false
def D.isTup : D → Bool
  | .tup _ => true
  | _ => false
structure IsT (n : String) (p : D → Bool) : Prop where
  kit : ∀ d, kitB (tyN d) n = some (p d)
  boot : bootBuiltins (Str.ofString n) = some (.type n)
theorem isT_int : IsT "int" D.isInt := ⟨fun d => by cases d <;> with_unfolding_all rfl, by decide +kernel⟩
theorem isT_bool : IsT "bool" D.isBl := ⟨fun d => by cases d <;> with_unfolding_all rfl, by decide +kernel⟩
theorem isT_str : IsT "str" D.isStr := ⟨fun d => by cases d <;> with_unfolding_all rfl, by decide +kernel⟩
theorem isT_list : IsT "list" D.isLst := ⟨fun d => by cases d <;> with_unfolding_all rfl, by decide +kernel⟩
theorem isT_tuple : IsT "tuple" D.isTup := ⟨fun d => by cases d <;> with_unfolding_all rfl, by decide +kernel⟩
theorem Rep.ty {K : PySem.W.Frag} {F H : Hp} (e : Same F H) {v : V} {d : D} (r : Rep K F v d) (hn : (∀ ns, d ≠ .scr ns) ∧ (∀ a, d ≠ .adr a) ∧ ∀ c y, d ≠ .exc c y) : TyX K H v (.type (tyN d)) := by
  cases r with
  | non => exact .base .non
  | bl b => exact .base (.bl b)
  | int i => exact .base (.int i)
  | str z => exact .base (.str z)
  | lst h _ => exact .base (.lst (e _ _ h))
  | tup h _ => exact .base (.tup (e _ _ h))
  | scr _ => exact absurd rfl (hn.1 _)
  | adr _ => exact absurd rfl (hn.2.1 _)
  | exc _ _ _ _ => exact absurd rfl (hn.2.2 _ _)
def notScr (d : D) (A : Prop) : Prop := match d with
  | .scr _ => False
  | .adr _ => False
  | .exc _ _ => False
  | _ => A
theorem notScr_of {d : D} {A : Prop} (h : notScr d A) : ((∀ ns, d ≠ .scr ns) ∧ (∀ a, d ≠ .adr a) ∧ ∀ c y, d ≠ .exc c y) ∧ A := by
  cases d with
  | scr ns => exact h.elim
  | adr a => exact h.elim
  | exc _ _ => exact h.elim
  | _ => exact ⟨⟨fun _ z => (by cases z), fun _ z => (by cases z), fun _ _ z => (by cases z)⟩, h⟩
section
variable {X : Cx} {e : Expr} {te : TE} {Te : TEp} {pos : Pos}
def pIsi (p : D → Bool) (Te : TEp) : TEp := fun ρ Q => Te ρ fun d ρ1 => notScr d (Q (.bl (p d)) ρ1)
theorem ppe_isi {n : String} {p : D → Bool} {fp np : Pos} (ht : IsT n p) (hg : Gl X "isinstance") (hm : X.mg "isinstance" = none) (hgn : Gl X (Str.ofString n)) (hmn : X.mg (Str.ofString n) = none) (he : PPE X e te Te) (hnn : Str.ofString n ≠ "__name__" := by decide) (hnd : (Str.ofString n == ("__debug__" : Str)) = false := by decide)
    (hs : starEach [e, .Name (Str.ofString n) np] X.env = (false, eval e X.env) :: starEach [.Name (Str.ofString n) np] X.env := by rfl) (hs2 : starEach [.Name (Str.ofString n) np] X.env = (false, eval (.Name (Str.ofString n) np) X.env) :: starEach [] X.env := by rfl) (hpl : (backTo pos (starEach [.Name (Str.ofString n) np] X.env)).any (·.1) = false := by rfl) :
    PPE X (.Call (.Name "isinstance" fp) [e, .Name (Str.ofString n) np] [] pos) (tCB (rIsi X.K) (tCons te (tCons (tC (.ty n)) tNil))) (pIsi p Te) :=
  ⟨pe_callB call_isi hg hm (by decide +kernel) (pa_cons he.pe (pa_cons (pe_bltn hgn hmn ht.boot rfl hnn hnd) pa_nil hs2) hs) (by decide) (by decide) hs hpl, fun G F H σ ρ Q R S hT k =>
    he.snd G F H σ ρ _ _ S hT fun v d F1 H1 ρ1 u1 S1 r1 q1 => by
      obtain ⟨hn, q⟩ := notScr_of q1
      exact ⟨v, .ty n, _, _, p d, rfl, .ty n, r1.ty S1.hF hn, ht.kit d, k _ _ F1 H1 ρ1 u1 S1 (.bl _) q⟩⟩
theorem kitAny_nil {K : PySem.W.Frag} {t : Value} : PySem.W.kitAny K t [] = some false := rfl
def pIsi2 (p q : D → Bool) (Te : TEp) : TEp := fun ρ Q => Te ρ fun d ρ1 => notScr d (Q (.bl (p d || q d)) ρ1)
theorem ppe_isi2 {n m : String} {p q : D → Bool} {fp np mp tp : Pos} {kk : Nat} (ht : IsT n p) (ht2 : IsT m q) (hg : Gl X "isinstance") (hm : X.mg "isinstance" = none) (hgn : Gl X (Str.ofString n)) (hmn : X.mg (Str.ofString n) = none) (hgm : Gl X (Str.ofString m)) (hmm : X.mg (Str.ofString m) = none) (he : PPE X e te Te)
    (hnn : Str.ofString n ≠ "__name__" := by decide) (hnd : (Str.ofString n == ("__debug__" : Str)) = false := by decide) (hmn' : Str.ofString m ≠ "__name__" := by decide) (hmd : (Str.ofString m == ("__debug__" : Str)) = false := by decide)
    (hs : starEach [e, .Tuple [.Name (Str.ofString n) np, .Name (Str.ofString m) mp] kk tp] X.env = (false, eval e X.env) :: starEach [.Tuple [.Name (Str.ofString n) np, .Name (Str.ofString m) mp] kk tp] X.env := by rfl)
    (hs2 : starEach [.Tuple [.Name (Str.ofString n) np, .Name (Str.ofString m) mp] kk tp] X.env = (false, eval (.Tuple [.Name (Str.ofString n) np, .Name (Str.ofString m) mp] kk tp) X.env) :: starEach [] X.env := by rfl)
    (hs3 : starEach [.Name (Str.ofString n) np, .Name (Str.ofString m) mp] X.env = (false, eval (.Name (Str.ofString n) np) X.env) :: starEach [.Name (Str.ofString m) mp] X.env := by rfl)
    (hs4 : starEach [.Name (Str.ofString m) mp] X.env = (false, eval (.Name (Str.ofString m) mp) X.env) :: starEach [] X.env := by rfl)
    (hpl : (backTo pos (starEach [.Tuple [.Name (Str.ofString n) np, .Name (Str.ofString m) mp] kk tp] X.env)).any (·.1) = false := by rfl) :
    PPE X (.Call (.Name "isinstance" fp) [e, .Tuple [.Name (Str.ofString n) np, .Name (Str.ofString m) mp] kk tp] [] pos) (tCB (rIsiT X.K) (tCons te (tCons (tTup (tCons (tC (.ty n)) (tCons (tC (.ty m)) tNil))) tNil))) (pIsi2 p q Te) :=
  ⟨pe_callB call_isiT hg hm (by decide +kernel) (pa_cons he.pe (pa_cons (pe_tup (pa_cons (pe_bltn hgn hmn ht.boot rfl hnn hnd) (pa_cons (pe_bltn hgm hmm ht2.boot rfl hmn' hmd) pa_nil hs4) hs3)) pa_nil hs2) hs) (by decide) (by decide) hs hpl, fun G F H σ ρ Q R S hT k =>
    he.snd G F H σ ρ _ _ S hT fun v d F1 H1 ρ1 u1 S1 r1 q1 => by
      obtain ⟨hn, q'⟩ := notScr_of q1
      refine ⟨by show (2 : Nat) ≤ sizeLine; decide, fun a ha => ?_⟩
      refine ⟨v, a, [.ty n, .ty m], _, [.type n, .type m], p d || q d, rfl, upd_same, .cons (.ty n) (.cons (.ty m) .nil), r1.ty (S1.hF.trans (same_new ha)) hn, ?_, k _ _ F1 _ ρ1 u1 (S1.more ha) (.bl _) q'⟩
      refine kitAny_cons (b := p d) (ht.kit d) (fun h => kitAny_cons (b := q d) (ht2.kit d) (fun h2 => by rw [h, h2]; rfl) (fun h2 => by rw [h2]; simp)) (fun h => by rw [h]; rfl)⟩
end
/-! ### told and due are one -/
def okN : Nat → D → Prop
  | _, .non => True
  | _, .bl _ => True
  | _, .int _ => True
  | _, .str z => (D.str z).sh
  | n + 1, .lst xs => xs.length ≤ 1000 ∧ ∀ x ∈ xs, okN n x
  | n + 1, .tup xs => xs.length ≤ 1000 ∧ ∀ x ∈ xs, okN n x
  | _, _ => False
def gS : Nat → FA
  | 0 => fun _ _ => False
  | n + 1 => fun ds C => ∃ d, ds = [d, d] ∧ okN n d ∧ C (.val (.bl true))
end Pl
namespace Pl
/-! ### the mathematics of winds -/
def cutFrom (s p : Int) : List Int → List Int
  | [] => []
  | h :: r => min h (p + s) :: cutFrom s (min h (p + s)) r
def cutOn (s : Int) : List Int → List Int
  | [] => []
  | x :: r => x :: cutFrom s x r
def cutBack (s : Int) : List Int → List Int
  | [] => []
  | x :: r => match cutBack s r with
    | [] => [x]
    | b :: t => min x (b + s) :: b :: t
def cutTo (s : Int) (ns : List Int) : List Int := (cutOn s (cutOn s ns).reverse).reverse
def fillTo (s : Int) (ns : List Int) : List Int := (cutTo s (ns.map (fun x => -x))).map (fun x => -x)
/-- nowhere rising by more than s, from the left; from the right -/
def UpL (s : Int) : List Int → Prop
  | x :: y :: r => y ≤ x + s ∧ UpL s (y :: r)
  | _ => True
def UpR (s : Int) : List Int → Prop
  | x :: y :: r => x ≤ y + s ∧ UpR s (y :: r)
  | _ => True
def Gentle (s : Int) (l : List Int) : Prop := UpL s l ∧ UpR s l
/-- post by post -/
def Lq : List Int → List Int → Prop
  | x :: xs, y :: ys => x ≤ y ∧ Lq xs ys
  | [], [] => True
  | _, _ => False
theorem Lq.refl : ∀ l : List Int, Lq l l
  | [] => trivial
  | x :: l => ⟨Int.le_refl x, Lq.refl l⟩
theorem Lq.trans : ∀ {a b c : List Int}, Lq a b → Lq b c → Lq a c
  | [], [], [], _, _ => trivial
  | x :: a, y :: b, z :: c, h, g => ⟨Int.le_trans h.1 g.1, Lq.trans h.2 g.2⟩
  | [], [], _ :: _, _, g => g.elim
  | [], _ :: _, _, h, _ => h.elim
  | _ :: _, [], _, h, _ => h.elim
  | _ :: _, _ :: _, [], _, g => g.elim
theorem Lq.antisymm : ∀ {a b : List Int}, Lq a b → Lq b a → a = b
  | [], [], _, _ => rfl
  | x :: a, y :: b, h, g => by rw [Int.le_antisymm h.1 g.1, Lq.antisymm h.2 g.2]
  | [], _ :: _, h, _ => h.elim
  | _ :: _, [], h, _ => h.elim
theorem Lq.length : ∀ {a b : List Int}, Lq a b → a.length = b.length
  | [], [], _ => rfl
  | _ :: a, _ :: b, h => by simp [Lq.length h.2]
  | [], _ :: _, h => h.elim
  | _ :: _, [], h => h.elim
theorem Lq.neg : ∀ {a b : List Int}, Lq a b → Lq (b.map (fun x => -x)) (a.map (fun x => -x))
  | [], [], _ => trivial
  | x :: a, y :: b, h => ⟨by show -y ≤ -x; have := h.1; omega, Lq.neg h.2⟩
  | [], _ :: _, h => h.elim
  | _ :: _, [], h => h.elim
theorem neg_neg_map (l : List Int) : (l.map (fun x => -x)).map (fun x => -x) = l := by
  rw [List.map_map]
  have : ((fun x : Int => -x) ∘ fun x => -x) = id := by funext x; simp
  rw [this, List.map_id]
theorem upL_neg {s : Int} : ∀ {l : List Int}, UpL s l → UpR s (l.map (fun x => -x))
  | [], _ => trivial
  | [_], _ => trivial
  | x :: y :: r, h => ⟨by show -x ≤ -y + s; have := h.1; omega, upL_neg (l := y :: r) h.2⟩
theorem upR_neg {s : Int} : ∀ {l : List Int}, UpR s l → UpL s (l.map (fun x => -x))
  | [], _ => trivial
  | [_], _ => trivial
  | x :: y :: r, h => ⟨by show -y ≤ -x + s; have := h.1; omega, upR_neg (l := y :: r) h.2⟩
theorem Gentle.neg {s : Int} {l : List Int} (h : Gentle s l) : Gentle s (l.map (fun x => -x)) := ⟨upR_neg h.2, upL_neg h.1⟩
theorem cutFrom_len (s : Int) : ∀ (p : Int) (l : List Int), (cutFrom s p l).length = l.length
  | _, [] => rfl
  | p, h :: r => by simp [cutFrom, cutFrom_len s _ r]
theorem cutOn_len (s : Int) : ∀ l : List Int, (cutOn s l).length = l.length
  | [] => rfl
  | x :: r => by simp [cutOn, cutFrom_len]
theorem cutTo_len (s : Int) (l : List Int) : (cutTo s l).length = l.length := by
  unfold cutTo
  rw [List.length_reverse, cutOn_len, List.length_reverse, cutOn_len]
theorem fillTo_len (s : Int) (l : List Int) : (fillTo s l).length = l.length := by
  unfold fillTo
  rw [List.length_map, cutTo_len, List.length_map]
/-- the pass from the other side -/
theorem cutFrom_snoc (s : Int) (x : Int) : ∀ (p : Int) (l : List Int), cutFrom s p (l ++ [x]) = cutFrom s p l ++ [min x ((cutFrom s p l).getLastD p + s)]
  | p, [] => rfl
  | p, h :: r => by
    show min h (p + s) :: cutFrom s (min h (p + s)) (r ++ [x]) = min h (p + s) :: (cutFrom s (min h (p + s)) r ++ [min x ((min h (p + s) :: cutFrom s (min h (p + s)) r).getLastD p + s)])
    rw [cutFrom_snoc s x _ r, List.getLastD_cons]
theorem cutOn_snoc (s x y : Int) (l : List Int) : cutOn s ((y :: l) ++ [x]) = cutOn s (y :: l) ++ [min x ((cutOn s (y :: l)).getLastD 0 + s)] := by
  show y :: cutFrom s y (l ++ [x]) = y :: (cutFrom s y l ++ [min x ((y :: cutFrom s y l).getLastD 0 + s)])
  rw [cutFrom_snoc, List.getLastD_cons]
theorem cutBack_ne {s : Int} {x : Int} {r : List Int} : cutBack s (x :: r) ≠ [] := by
  unfold cutBack
  split <;> simp
theorem getLastD_rev {α : Type} (d b : α) (t : List α) : ((b :: t).reverse).getLastD d = b := by
  rw [List.reverse_cons, List.getLastD_concat]
theorem cutOn_rev (s : Int) : ∀ l : List Int, cutOn s l.reverse = (cutBack s l).reverse
  | [] => rfl
  | [x] => rfl
  | x :: y :: r => by
    have ih := cutOn_rev s (y :: r)
    have e : (x :: y :: r).reverse = (y :: r).reverse ++ [x] := List.reverse_cons
    rw [e]
    cases h : (y :: r).reverse with
    | nil => simp at h
    | cons z t =>
      rw [cutOn_snoc, ← h, ih]
      show _ = (match cutBack s (y :: r) with
        | [] => [x]
        | b :: t => min x (b + s) :: b :: t).reverse
      cases hb : cutBack s (y :: r) with
      | nil => exact absurd hb cutBack_ne
      | cons b t' =>
        rw [getLastD_rev]
        show (b :: t').reverse ++ [min x (b + s)] = (min x (b + s) :: b :: t').reverse
        rw [List.reverse_cons (a := min x (b + s))]
theorem cutTo_eq (s : Int) (l : List Int) : cutTo s l = cutBack s (cutOn s l) := by
  unfold cutTo
  rw [cutOn_rev, List.reverse_reverse]
theorem cutFrom_le (s : Int) : ∀ (p : Int) (l : List Int), Lq (cutFrom s p l) l
  | _, [] => trivial
  | p, h :: r => ⟨Int.min_le_left _ _, cutFrom_le s _ r⟩
theorem cutOn_le (s : Int) : ∀ l : List Int, Lq (cutOn s l) l
  | [] => trivial
  | x :: r => ⟨Int.le_refl x, cutFrom_le s x r⟩
theorem cutFrom_upL (s : Int) : ∀ (p : Int) (l : List Int), UpL s (p :: cutFrom s p l)
  | _, [] => trivial
  | p, h :: r => ⟨Int.min_le_right _ _, cutFrom_upL s _ r⟩
theorem cutOn_upL (s : Int) : ∀ l : List Int, UpL s (cutOn s l)
  | [] => trivial
  | x :: r => cutFrom_upL s x r
theorem cutBack_le (s : Int) : ∀ l : List Int, Lq (cutBack s l) l
  | [] => trivial
  | x :: r => by
    have ih := cutBack_le s r
    unfold cutBack
    cases hb : cutBack s r with
    | nil => rw [hb] at ih; cases r with
      | nil => exact ⟨Int.le_refl x, trivial⟩
      | cons _ _ => exact ih.elim
    | cons b t => rw [hb] at ih; exact ⟨Int.min_le_left _ _, ih⟩
theorem cutBack_upR (s : Int) : ∀ l : List Int, UpR s (cutBack s l)
  | [] => trivial
  | x :: r => by
    have ih := cutBack_upR s r
    unfold cutBack
    cases hb : cutBack s r with
    | nil => exact trivial
    | cons b t => rw [hb] at ih; exact ⟨Int.min_le_right _ _, ih⟩
theorem cutBack_upL {s : Int} (h0 : 0 ≤ s) : ∀ l : List Int, UpL s l → UpL s (cutBack s l)
  | [], _ => trivial
  | [x], _ => trivial
  | x :: y :: r, h => by
    have ih := cutBack_upL h0 (y :: r) h.2
    have le := cutBack_le s (y :: r)
    show UpL s (match cutBack s (y :: r) with | [] => [x] | b :: t => min x (b + s) :: b :: t)
    cases hb : cutBack s (y :: r) with
    | nil => exact trivial
    | cons b t =>
      rw [hb] at ih le
      have h1 := h.1
      have h2 : b ≤ y := le.1
      refine ⟨?_, ih⟩
      omega
theorem cutFrom_max {s : Int} : ∀ {p q : Int} {b l : List Int}, q ≤ p → UpL s (q :: b) → Lq b l → Lq b (cutFrom s p l)
  | _, _, [], [], _, _, _ => trivial
  | p, q, x :: b, h :: r, hq, hu, hl => by
    have h1 := hu.1
    have h2 := hl.1
    have h3 : x ≤ min h (p + s) := by omega
    exact ⟨h3, cutFrom_max h3 hu.2 hl.2⟩
  | _, _, [], _ :: _, _, _, h => h.elim
  | _, _, _ :: _, [], _, _, h => h.elim
theorem cutOn_max {s : Int} : ∀ {b l : List Int}, UpL s b → Lq b l → Lq b (cutOn s l)
  | [], [], _, _ => trivial
  | x :: b, y :: l, hu, hl => ⟨hl.1, cutFrom_max hl.1 hu hl.2⟩
  | [], _ :: _, _, h => h.elim
  | _ :: _, [], _, h => h.elim
theorem cutBack_max {s : Int} : ∀ {b l : List Int}, UpR s b → Lq b l → Lq b (cutBack s l)
  | [], [], _, _ => trivial
  | [x], [y], _, hl => hl
  | x :: z :: b, y :: w :: l, hu, hl => by
    have ih := cutBack_max (b := z :: b) (l := w :: l) hu.2 hl.2
    show Lq (x :: z :: b) (match cutBack s (w :: l) with | [] => [y] | b :: t => min y (b + s) :: b :: t)
    cases hb : cutBack s (w :: l) with
    | nil => exact absurd hb cutBack_ne
    | cons c t =>
      rw [hb] at ih
      have h1 := hu.1
      have h2 := hl.1
      have h3 := ih.1
      exact ⟨by omega, ih⟩
  | [_], _ :: _ :: _, _, h => h.2.elim
  | _ :: _ :: _, [_], _, h => h.2.elim
  | [], _ :: _, _, h => h.elim
  | _ :: _, [], _, h => h.elim
theorem cutTo_gentle {s : Int} (h0 : 0 ≤ s) (l : List Int) : Gentle s (cutTo s l) := by
  rw [cutTo_eq]
  exact ⟨cutBack_upL h0 _ (cutOn_upL s l), cutBack_upR s _⟩
theorem cutTo_le (s : Int) (l : List Int) : Lq (cutTo s l) l := by
  rw [cutTo_eq]
  exact (cutBack_le s _).trans (cutOn_le s l)
theorem cutTo_max {s : Int} {b l : List Int} (hb : Gentle s b) (h : Lq b l) : Lq b (cutTo s l) := by
  rw [cutTo_eq]
  exact cutBack_max hb.2 (cutOn_max hb.1 h)
theorem fillTo_gentle {s : Int} (h0 : 0 ≤ s) (l : List Int) : Gentle s (fillTo s l) := (cutTo_gentle h0 _).neg
theorem fillTo_ge (s : Int) (l : List Int) : Lq l (fillTo s l) := by
  have := (cutTo_le s (l.map (fun x => -x))).neg
  rw [neg_neg_map] at this
  exact this
theorem fillTo_min {s : Int} {b l : List Int} (hb : Gentle s b) (h : Lq l b) : Lq (fillTo s l) b := by
  have := (cutTo_max hb.neg h.neg).neg
  rw [neg_neg_map] at this
  exact this
theorem cutTo_idle {s : Int} (h0 : 0 ≤ s) {l : List Int} : cutTo s l = l ↔ Gentle s l :=
  ⟨fun h => h ▸ cutTo_gentle h0 l, fun h => (cutTo_le s l).antisymm (cutTo_max h (Lq.refl l))⟩
theorem fillTo_idle {s : Int} (h0 : 0 ≤ s) {l : List Int} : fillTo s l = l ↔ Gentle s l :=
  ⟨fun h => h ▸ fillTo_gentle h0 l, fun h => (fillTo_min h (Lq.refl l)).antisymm (fillTo_ge s l)⟩
theorem lq_replicate {m : Int} : ∀ {l : List Int}, (∀ x ∈ l, m ≤ x) → Lq (List.replicate l.length m) l
  | [], _ => trivial
  | x :: l, h => ⟨h x (by simp), lq_replicate fun y hy => h y (by simp [hy])⟩
theorem lq_replicate' {m : Int} : ∀ {l : List Int}, (∀ x ∈ l, x ≤ m) → Lq l (List.replicate l.length m)
  | [], _ => trivial
  | x :: l, h => ⟨h x (by simp), lq_replicate' fun y hy => h y (by simp [hy])⟩
theorem gentle_replicate {s m : Int} (h0 : 0 ≤ s) : ∀ n : Nat, Gentle s (List.replicate n m)
  | 0 => ⟨trivial, trivial⟩
  | 1 => ⟨trivial, trivial⟩
  | n + 2 => by
    have ih := gentle_replicate (m := m) h0 (n + 1)
    exact ⟨⟨by show m ≤ m + s; omega, ih.1⟩, ⟨by show m ≤ m + s; omega, ih.2⟩⟩
/-! steepest -/
def gap (x y : Int) : Int := if y - x < 0 then -(y - x) else y - x
def gaps : List Int → List Int
  | x :: y :: r => gap x y :: gaps (y :: r)
  | _ => []
def steep (l : List Int) : Int := (gaps l).foldl max 0
theorem foldl_max_le {m a : Int} : ∀ {l : List Int}, l.foldl max a ≤ m ↔ a ≤ m ∧ ∀ x ∈ l, x ≤ m
  | [] => by simp
  | y :: l => by
    rw [List.foldl_cons, foldl_max_le (l := l)]
    constructor
    · intro ⟨h, g⟩
      refine ⟨by omega, fun x hx => ?_⟩
      rcases List.mem_cons.mp hx with e | hx
      · omega
      · exact g x hx
    · intro ⟨h, g⟩
      have := g y (by simp)
      exact ⟨by omega, fun x hx => g x (by simp [hx])⟩
theorem foldl_min_ge {m a : Int} : ∀ {l : List Int}, m ≤ l.foldl min a ↔ m ≤ a ∧ ∀ x ∈ l, m ≤ x
  | [] => by simp
  | y :: l => by
    rw [List.foldl_cons, foldl_min_ge (l := l)]
    constructor
    · intro ⟨h, g⟩
      refine ⟨by omega, fun x hx => ?_⟩
      rcases List.mem_cons.mp hx with e | hx
      · omega
      · exact g x hx
    · intro ⟨h, g⟩
      have := g y (by simp)
      exact ⟨by omega, fun x hx => g x (by simp [hx])⟩
theorem foldl_min_mem {a : Int} : ∀ {l : List Int}, l.foldl min a ∈ a :: l
  | [] => by simp
  | y :: l => by
    rw [List.foldl_cons]
    rcases List.mem_cons.mp (foldl_min_mem (a := min a y) (l := l)) with h | h
    · rw [h]
      rcases (show min a y = a ∨ min a y = y by omega) with e | e
      · rw [e]; simp
      · rw [e]; simp
    · simp [h]
theorem foldl_max_mem {a : Int} : ∀ {l : List Int}, l.foldl max a ∈ a :: l
  | [] => by simp
  | y :: l => by
    rw [List.foldl_cons]
    rcases List.mem_cons.mp (foldl_max_mem (a := max a y) (l := l)) with h | h
    · rw [h]
      rcases (show max a y = a ∨ max a y = y by omega) with e | e
      · rw [e]; simp
      · rw [e]; simp
    · simp [h]
theorem gaps_le {s : Int} : ∀ {l : List Int}, (∀ x ∈ gaps l, x ≤ s) ↔ Gentle s l
  | [] => by simp [gaps, Gentle, UpL, UpR]
  | [_] => by simp [gaps, Gentle, UpL, UpR]
  | x :: y :: r => by
    have ih := gaps_le (s := s) (l := y :: r)
    constructor
    · intro h
      have h1 : gap x y ≤ s := h _ (by simp [gaps])
      have h2 := ih.mp fun z hz => h z (by rw [gaps]; exact List.mem_cons_of_mem _ hz)
      unfold gap at h1
      refine ⟨⟨?_, h2.1⟩, ⟨?_, h2.2⟩⟩ <;> split at h1 <;> omega
    · intro h z hz
      rw [gaps] at hz
      rcases List.mem_cons.mp hz with e | hz
      · have h1 := h.1.1
        have h2 := h.2.1
        rw [e]; unfold gap; split <;> omega
      · exact ih.mpr ⟨h.1.2, h.2.2⟩ z hz
theorem steep_le {s : Int} (h0 : 0 ≤ s) {l : List Int} : steep l ≤ s ↔ Gentle s l := by
  unfold steep
  rw [foldl_max_le, gaps_le]
  exact ⟨fun h => h.2, fun h => ⟨h0, h⟩⟩
theorem gap_nonneg (x y : Int) : 0 ≤ gap x y := by unfold gap; split <;> omega
theorem gaps_nonneg : ∀ {l : List Int} {x : Int}, x ∈ gaps l → 0 ≤ x
  | [], _, h => by simp [gaps] at h
  | [_], _, h => by simp [gaps] at h
  | a :: b :: r, x, h => by
    rw [gaps] at h
    rcases List.mem_cons.mp h with e | h
    · rw [e]; exact gap_nonneg a b
    · exact gaps_nonneg h
theorem foldl_max_mono {a b : Int} : ∀ {l : List Int}, a ≤ b → (∀ x ∈ l.head?, b ≤ max a x) → l ≠ [] → l.foldl max a = l.foldl max b
  | [], _, _, h => absurd rfl h
  | x :: l, h, g, _ => by
    have := g x (by simp)
    rw [List.foldl_cons, List.foldl_cons, show max a x = max b x by omega]
theorem steep_cons {x y : Int} {r : List Int} : steep (x :: y :: r) = (gaps (y :: r)).foldl max (gap x y) := by
  unfold steep
  rw [gaps, List.foldl_cons, show max 0 (gap x y) = gap x y by have := gap_nonneg x y; omega]
end Pl
namespace Pl
theorem foldl_max_zero : ∀ (l : List Int) (a : Int), (l ++ [0]).foldl max a = max 0 (l.foldl max a)
  | [], a => by simp; omega
  | x :: l, a => by rw [List.cons_append, List.foldl_cons, List.foldl_cons, foldl_max_zero l]
theorem foldl_max_base : ∀ (l : List Int) (a b : Int), l.foldl max (max b a) = max b (l.foldl max a)
  | [], _, _ => rfl
  | x :: l, a, b => by rw [List.foldl_cons, List.foldl_cons, ← foldl_max_base l]; congr 1; omega
theorem steep_tail : ∀ l : List Int, ∃ n r, gaps l ++ [0] = n :: r ∧ r.foldl max n = steep l := by
  intro l
  cases h : gaps l with
  | nil => exact ⟨0, [], rfl, by unfold steep; rw [h]⟩
  | cons g gs =>
    refine ⟨g, gs ++ [0], rfl, ?_⟩
    unfold steep
    rw [h, foldl_max_zero, List.foldl_cons, foldl_max_base]
theorem all_zip2 : ∀ {a b : List Int} (p : Int → Int → Bool), (∀ x y, x ≤ y → p x y = true) → Lq a b → (List.zipWith p a b).all id = true
  | [], [], _, _, _ => rfl
  | x :: a, y :: b, p, h, h1 => by
    rw [List.zipWith_cons_cons, List.all_cons, all_zip2 p h h1.2]
    simp [h x y h1.1]
  | [], _ :: _, _, _, h => h.elim
  | _ :: _, [], _, _, h => h.elim
theorem all_zip2' : ∀ {a b : List Int} (p : Int → Int → Bool), (∀ x y, y ≤ x → p x y = true) → Lq b a → (List.zipWith p a b).all id = true
  | [], [], _, _, _ => rfl
  | x :: a, y :: b, p, h, h1 => by
    rw [List.zipWith_cons_cons, List.all_cons, all_zip2' p h h1.2]
    simp [h x y h1.1]
  | [], _ :: _, _, _, h => h.elim
  | _ :: _, [], _, _, h => h.elim
theorem diff_nonneg : ∀ {a b : List Int}, Lq a b → ∀ t ∈ List.zipWith (fun x y => y - x) a b, 0 ≤ t
  | [], [], _ => by simp
  | x :: a, y :: b, h => by
    intro t ht
    rw [List.zipWith_cons_cons] at ht
    rcases List.mem_cons.mp ht with e | ht
    · have := h.1; omega
    · exact diff_nonneg h.2 t ht
  | [], _ :: _, h => h.elim
  | _ :: _, [], h => h.elim
/-- a level between a dune and one below it, met at some post, is a post where both are one -/
theorem diff_zero {m : Int} : ∀ {a b : List Int}, Lq a b → (∀ x ∈ a, m ≤ x) → m ∈ b → (0 : Int) ∈ List.zipWith (fun x y => y - x) a b
  | [], [], _, _, h => by simp at h
  | x :: a, y :: b, h, hm, hb => by
    rw [List.zipWith_cons_cons]
    rcases List.mem_cons.mp hb with e | hb
    · have h1 := h.1
      have h2 := hm x (by simp)
      rw [show y - x = 0 by omega]; simp
    · exact List.mem_cons_of_mem _ (diff_zero h.2 (fun z hz => hm z (by simp [hz])) hb)
  | [], _ :: _, h, _, _ => h.elim
  | _ :: _, [], h, _, _ => h.elim
theorem diff_zero' {m : Int} : ∀ {a b : List Int}, Lq a b → (∀ x ∈ b, x ≤ m) → m ∈ a → (0 : Int) ∈ List.zipWith (fun x y => y - x) a b
  | [], [], _, _, h => by simp at h
  | x :: a, y :: b, h, hm, hb => by
    rw [List.zipWith_cons_cons]
    rcases List.mem_cons.mp hb with e | hb
    · have h1 := h.1
      have h2 := hm y (by simp)
      rw [show y - x = 0 by omega]; simp
    · exact List.mem_cons_of_mem _ (diff_zero' h.2 (fun z hz => hm z (by simp [hz])) hb)
  | [], _ :: _, h, _, _ => h.elim
  | _ :: _, [], h, _, _ => h.elim
theorem lq_mem {m : Int} : ∀ {n : Nat} {l : List Int}, Lq (List.replicate n m) l → ∀ x ∈ l, m ≤ x
  | 0, [], _ => by simp
  | n + 1, y :: l, h => by
    intro x hx
    have h : m ≤ y ∧ Lq (List.replicate n m) l := h
    rcases List.mem_cons.mp hx with e | hx
    · rw [e]; exact h.1
    · exact lq_mem h.2 x hx
  | 0, _ :: _, h => h.elim
  | _ + 1, [], h => h.elim
theorem lq_mem' {m : Int} : ∀ {n : Nat} {l : List Int}, Lq l (List.replicate n m) → ∀ x ∈ l, x ≤ m
  | 0, [], _ => by simp
  | n + 1, y :: l, h => by
    intro x hx
    have h : y ≤ m ∧ Lq l (List.replicate n m) := h
    rcases List.mem_cons.mp hx with e | hx
    · rw [e]; exact h.1
    · exact lq_mem' h.2 x hx
  | 0, _ :: _, h => h.elim
  | _ + 1, [], h => h.elim
theorem min_zero {l : List Int} (h0 : ∀ t ∈ l, 0 ≤ t) (hz : (0 : Int) ∈ l) : ∃ n r, l = n :: r ∧ r.foldl min n = 0 := by
  cases l with
  | nil => simp at hz
  | cons n r =>
    refine ⟨n, r, rfl, ?_⟩
    have h1 : 0 ≤ r.foldl min n := foldl_min_ge.mpr ⟨h0 n (by simp), fun x hx => h0 x (by simp [hx])⟩
    have h2 : r.foldl min n ≤ 0 := by
      have := (foldl_min_ge (m := r.foldl min n) (a := n) (l := r)).mp (Int.le_refl _)
      rcases List.mem_cons.mp hz with e | hz
      · have := this.1; omega
      · exact this.2 0 hz
    omega
theorem cut_touches {s : Int} (h0 : 0 ≤ s) {l : List Int} (hne : l ≠ []) : ∃ n r, List.zipWith (fun x y => y - x) (cutTo s l) l = n :: r ∧ r.foldl min n = 0 := by
  refine min_zero (diff_nonneg (cutTo_le s l)) ?_
  cases l with
  | nil => exact absurd rfl hne
  | cons x r =>
    have hm := foldl_min_mem (a := x) (l := r)
    have hle := (foldl_min_ge (m := r.foldl min x) (a := x) (l := r)).mp (Int.le_refl _)
    have hall : ∀ y ∈ x :: r, r.foldl min x ≤ y := fun y hy => by
      rcases List.mem_cons.mp hy with e | hy
      · rw [e]; exact hle.1
      · exact hle.2 y hy
    exact diff_zero (cutTo_le s _) (lq_mem (cutTo_max (gentle_replicate h0 _) (lq_replicate hall))) hm
theorem fill_touches {s : Int} (h0 : 0 ≤ s) {l : List Int} (hne : l ≠ []) : ∃ n r, List.zipWith (fun x y => y - x) l (fillTo s l) = n :: r ∧ r.foldl min n = 0 := by
  refine min_zero (diff_nonneg (fillTo_ge s l)) ?_
  cases l with
  | nil => exact absurd rfl hne
  | cons x r =>
    have hm := foldl_max_mem (a := x) (l := r)
    have hle := (foldl_max_le (m := r.foldl max x) (a := x) (l := r)).mp (Int.le_refl _)
    have hall : ∀ y ∈ x :: r, y ≤ r.foldl max x := fun y hy => by
      rcases List.mem_cons.mp hy with e | hy
      · rw [e]; exact hle.1
      · exact hle.2 y hy
    exact diff_zero' (fillTo_ge s _) (lq_mem' (fillTo_min (gentle_replicate h0 _) (lq_replicate' hall))) hm
theorem gentle_shift {s c : Int} : ∀ {l : List Int}, Gentle s l → Gentle s (l.map (fun x => x + c))
  | [], _ => ⟨trivial, trivial⟩
  | [_], _ => ⟨trivial, trivial⟩
  | x :: y :: r, h => by
    have ih := gentle_shift (c := c) (l := y :: r) ⟨h.1.2, h.2.2⟩
    have h1 := h.1.1
    have h2 := h.2.1
    exact ⟨⟨by show y + c ≤ x + c + s; omega, ih.1⟩, ⟨by show x + c ≤ y + c + s; omega, ih.2⟩⟩
theorem zip_ne {α : Type} {f : Int → Int → α} : ∀ {a b : List Int}, a.length = b.length → b ≠ [] → ∃ n r, List.zipWith f a b = n :: r
  | [], [], _, h => absurd rfl h
  | x :: a, y :: b, _, _ => ⟨_, _, rfl⟩
  | [], _ :: _, h, _ => by simp at h
  | _ :: _, [], h, _ => by simp at h
theorem below_by {c : Int} : ∀ {a b : List Int}, a.length = b.length → (∀ t ∈ List.zipWith (fun x y => x - y) a b, t ≤ c) → Lq (a.map (fun x => x + -c)) b
  | [], [], _, _ => trivial
  | x :: a, y :: b, hl, h => by
    have h1 := h (x - y) (by rw [List.zipWith_cons_cons]; simp)
    exact ⟨by show x + -c ≤ y; omega, below_by (by simpa using hl) fun t ht => h t (by rw [List.zipWith_cons_cons]; simp [ht])⟩
  | [], _ :: _, h, _ => by simp at h
  | _ :: _, [], h, _ => by simp at h
theorem above_by {c : Int} : ∀ {a b : List Int}, a.length = b.length → (∀ t ∈ List.zipWith (fun x y => y - x) a b, t ≤ c) → Lq b (a.map (fun x => x + c))
  | [], [], _, _ => trivial
  | x :: a, y :: b, hl, h => by
    have h1 := h (y - x) (by rw [List.zipWith_cons_cons]; simp)
    exact ⟨by show y ≤ x + c; omega, above_by (by simpa using hl) fun t ht => h t (by rw [List.zipWith_cons_cons]; simp [ht])⟩
  | [], _ :: _, h, _ => by simp at h
  | _ :: _, [], h, _ => by simp at h
theorem gentle_snoc {s : Int} {p x : Int} : ∀ {l : List Int}, Gentle s (l ++ [p]) → x ≤ p + s → p ≤ x + s → Gentle s (l ++ [p] ++ [x])
  | [], _, h1, h2 => ⟨⟨h1, trivial⟩, ⟨h2, trivial⟩⟩
  | [a], h, h1, h2 => ⟨⟨h.1.1, h1, trivial⟩, ⟨h.2.1, h2, trivial⟩⟩
  | a :: b :: l, h, h1, h2 => by
    have ih := gentle_snoc (l := b :: l) ⟨h.1.2, h.2.2⟩ h1 h2
    exact ⟨⟨h.1.1, ih.1⟩, ⟨h.2.1, ih.2⟩⟩
end Pl
namespace Pl
def aI (i : Int) : Int := if i < 0 then -i else i
def minOf : List Int → Int
  | [] => 0
  | x :: r => r.foldl min x
def maxOf : List Int → Int
  | [] => 0
  | x :: r => r.foldl max x
theorem minOf_le {l : List Int} {x : Int} (h : x ∈ l) : minOf l ≤ x := by
  cases l with
  | nil => simp at h
  | cons y r =>
    have := (foldl_min_ge (m := r.foldl min y) (a := y) (l := r)).mp (Int.le_refl _)
    rcases List.mem_cons.mp h with e | h
    · rw [e]; exact this.1
    · exact this.2 x h
theorem minOf_mem {l : List Int} (h : l ≠ []) : minOf l ∈ l := by
  cases l with
  | nil => exact absurd rfl h
  | cons y r => exact foldl_min_mem
theorem le_minOf {l : List Int} {m : Int} (hl : l ≠ []) (h : ∀ x ∈ l, m ≤ x) : m ≤ minOf l := h _ (minOf_mem hl)
theorem foldl_neg : ∀ (l : List Int) (a : Int), (l.map (fun x => -x)).foldl max (-a) = -(l.foldl min a)
  | [], _ => rfl
  | x :: l, a => by
    rw [List.map_cons, List.foldl_cons, List.foldl_cons, show max (-a) (-x) = -(min a x) by omega, foldl_neg l]
theorem maxOf_neg (l : List Int) : maxOf (l.map (fun x => -x)) = -(minOf l) := by
  cases l with
  | nil => rfl
  | cons x r => exact foldl_neg r x
def reach (s : Int) (l : List Int) (i : Int) : List Int := (List.range l.length).map fun (j : Nat) => l.getD j 0 + s * aI (i - (j : Int))
def reachF (s : Int) (l : List Int) (i : Int) : List Int := (List.range l.length).map fun (j : Nat) => l.getD j 0 - s * aI (i - (j : Int))
def cutAll (s : Int) (l : List Int) : List Int := (List.range l.length).map fun (i : Nat) => minOf (reach s l i)
def fillAll (s : Int) (l : List Int) : List Int := (List.range l.length).map fun (i : Nat) => maxOf (reachF s l i)
theorem lq_of_get : ∀ {a b : List Int}, a.length = b.length → (∀ i, i < a.length → a.getD i 0 ≤ b.getD i 0) → Lq a b
  | [], [], _, _ => trivial
  | x :: a, y :: b, hl, h => ⟨by have := h 0 (by simp); simpa using this, lq_of_get (by simpa using hl) fun i hi => by
      have := h (i + 1) (by simp; omega)
      simpa using this⟩
  | [], _ :: _, h, _ => by simp at h
  | _ :: _, [], h, _ => by simp at h
theorem lq_get : ∀ {a b : List Int}, Lq a b → ∀ i, a.getD i 0 ≤ b.getD i 0
  | [], [], _, _ => Int.le_refl _
  | x :: a, y :: b, h, 0 => by simpa using h.1
  | x :: a, y :: b, h, i + 1 => by simpa using lq_get h.2 i
  | [], _ :: _, h, _ => h.elim
  | _ :: _, [], h, _ => h.elim
theorem upL_of {s : Int} : ∀ {l : List Int}, (∀ i, i + 1 < l.length → l.getD (i + 1) 0 ≤ l.getD i 0 + s) → UpL s l
  | [], _ => trivial
  | [_], _ => trivial
  | x :: y :: r, h => ⟨by have := h 0 (by simp); simpa using this, upL_of fun i hi => by
      have := h (i + 1) (by simp at hi ⊢; omega)
      simpa using this⟩
theorem upR_of {s : Int} : ∀ {l : List Int}, (∀ i, i + 1 < l.length → l.getD i 0 ≤ l.getD (i + 1) 0 + s) → UpR s l
  | [], _ => trivial
  | [_], _ => trivial
  | x :: y :: r, h => ⟨by have := h 0 (by simp); simpa using this, upR_of fun i hi => by
      have := h (i + 1) (by simp at hi ⊢; omega)
      simpa using this⟩
theorem upL_get {s : Int} : ∀ {l : List Int}, UpL s l → ∀ i, i + 1 < l.length → l.getD (i + 1) 0 ≤ l.getD i 0 + s
  | [], _, _, h => by simp at h
  | [_], _, _, h => by simp at h
  | x :: y :: r, h, 0, _ => by simpa using h.1
  | x :: y :: r, h, i + 1, hi => by
    have := upL_get h.2 i (by simp at hi ⊢; omega)
    simpa using this
theorem upR_get {s : Int} : ∀ {l : List Int}, UpR s l → ∀ i, i + 1 < l.length → l.getD i 0 ≤ l.getD (i + 1) 0 + s
  | [], _, _, h => by simp at h
  | [_], _, _, h => by simp at h
  | x :: y :: r, h, 0, _ => by simpa using h.1
  | x :: y :: r, h, i + 1, hi => by
    have := upR_get h.2 i (by simp at hi ⊢; omega)
    simpa using this
theorem upL_far {s : Int} {l : List Int} (h : UpL s l) (i : Nat) : ∀ d, i + d < l.length → l.getD (i + d) 0 ≤ l.getD i 0 + s * d
  | 0, _ => by simp
  | d + 1, hd => by
    have h1 := upL_far h i d (by omega)
    have h2 := upL_get h (i + d) (by omega)
    have e : s * ((d + 1 : Nat) : Int) = s * d + s := by rw [show ((d + 1 : Nat) : Int) = (d : Int) + 1 by omega, Int.mul_add, Int.mul_one]
    rw [show i + (d + 1) = i + d + 1 by omega]
    omega
theorem upR_far {s : Int} {l : List Int} (h : UpR s l) (i : Nat) : ∀ d, i + d < l.length → l.getD i 0 ≤ l.getD (i + d) 0 + s * d
  | 0, _ => by simp
  | d + 1, hd => by
    have h1 := upR_far h i d (by omega)
    have h2 := upR_get h (i + d) (by omega)
    have e : s * ((d + 1 : Nat) : Int) = s * d + s := by rw [show ((d + 1 : Nat) : Int) = (d : Int) + 1 by omega, Int.mul_add, Int.mul_one]
    rw [show i + (d + 1) = i + d + 1 by omega]
    omega
theorem gentle_far {s : Int} {l : List Int} (h : Gentle s l) (i j : Nat) (hi : i < l.length) (hj : j < l.length) : l.getD i 0 ≤ l.getD j 0 + s * aI ((i : Int) - j) := by
  rcases Nat.le_total i j with g | g
  · have := upR_far h.2 i (j - i) (by omega)
    rw [show i + (j - i) = j by omega] at this
    rw [show aI ((i : Int) - j) = ((j - i : Nat) : Int) by unfold aI; split <;> omega]
    exact this
  · have := upL_far h.1 j (i - j) (by omega)
    rw [show j + (i - j) = i by omega] at this
    rw [show aI ((i : Int) - j) = ((i - j : Nat) : Int) by unfold aI; split <;> omega]
    exact this
theorem cutAll_len (s : Int) (l : List Int) : (cutAll s l).length = l.length := by simp [cutAll]
theorem fillAll_len (s : Int) (l : List Int) : (fillAll s l).length = l.length := by simp [fillAll]
theorem reach_ne {s i : Int} {l : List Int} (h : l ≠ []) : reach s l i ≠ [] := by
  cases l with
  | nil => exact absurd rfl h
  | cons x r => simp [reach]
theorem cutAll_get {s : Int} {l : List Int} {i : Nat} (hi : i < l.length) : (cutAll s l).getD i 0 = minOf (reach s l i) := by
  unfold cutAll
  rw [List.getD_eq_getElem?_getD, List.getElem?_map, List.getElem?_range hi]; rfl
theorem mem_reach {s i x : Int} {l : List Int} : x ∈ reach s l i ↔ ∃ j, j < l.length ∧ x = l.getD j 0 + s * aI (i - (j : Int)) := by
  unfold reach
  rw [List.mem_map]
  constructor
  · rintro ⟨j, hj, e⟩; exact ⟨j, List.mem_range.mp hj, e.symm⟩
  · rintro ⟨j, hj, e⟩; exact ⟨j, List.mem_range.mpr hj, e.symm⟩
theorem cutAll_le (s : Int) (l : List Int) : Lq (cutAll s l) l := by
  refine lq_of_get (cutAll_len s l) fun i hi => ?_
  rw [cutAll_len] at hi
  rw [cutAll_get hi]
  have := minOf_le (mem_reach (s := s) (i := (i : Int)) (l := l) |>.mpr ⟨i, hi, rfl⟩)
  rw [show aI ((i : Int) - i) = 0 by unfold aI; split <;> omega, Int.mul_zero] at this
  omega
theorem mul_step {s a b : Int} (h0 : 0 ≤ s) (h : a ≤ b + 1) : s * a ≤ s * b + s := by
  have := Int.mul_le_mul_of_nonneg_left h h0
  rw [Int.mul_add, Int.mul_one] at this
  exact this
theorem aI_step {a b : Int} (h : a - b ≤ 1) (g : b - a ≤ 1) : aI a ≤ aI b + 1 := by
  unfold aI; split <;> split <;> omega
theorem cutAll_near {s : Int} (h0 : 0 ≤ s) {l : List Int} (hne : l ≠ []) (i k : Int) (h : i - k ≤ 1) (g : k - i ≤ 1) : minOf (reach s l i) ≤ minOf (reach s l k) + s := by
  obtain ⟨j, hj, e⟩ := mem_reach.mp (minOf_mem (reach_ne (s := s) (i := k) hne))
  have h1 := minOf_le (mem_reach (s := s) (i := i) (l := l) |>.mpr ⟨j, hj, rfl⟩)
  have h2 : s * aI (i - j) ≤ s * aI (k - j) + s := mul_step h0 (aI_step (by omega) (by omega))
  omega
theorem cutAll_gentle {s : Int} (h0 : 0 ≤ s) (l : List Int) : Gentle s (cutAll s l) := by
  refine ⟨upL_of fun i hi => ?_, upR_of fun i hi => ?_⟩ <;> rw [cutAll_len] at hi
  · rw [cutAll_get hi, cutAll_get (by omega)]
    exact cutAll_near h0 (by intro e; subst e; simp at hi) _ _ (by omega) (by omega)
  · rw [cutAll_get hi, cutAll_get (by omega)]
    exact cutAll_near h0 (by intro e; subst e; simp at hi) _ _ (by omega) (by omega)
theorem cutAll_max {s : Int} {b l : List Int} (hb : Gentle s b) (h : Lq b l) : Lq b (cutAll s l) := by
  have hl := h.length
  refine lq_of_get (by rw [cutAll_len]; exact hl) fun i hi => ?_
  rw [cutAll_get (by omega)]
  refine le_minOf (reach_ne (by intro e; subst e; simp at hl; simp [hl] at hi)) fun x hx => ?_
  obtain ⟨j, hj, e⟩ := mem_reach.mp hx
  have h1 := gentle_far hb i j hi (by omega)
  have h2 := lq_get h j
  omega
theorem cutTo_all {s : Int} (h0 : 0 ≤ s) (l : List Int) : cutTo s l = cutAll s l :=
  (cutAll_max (cutTo_gentle h0 l) (cutTo_le s l)).antisymm (cutTo_max (cutAll_gentle h0 l) (cutAll_le s l))
theorem reachF_neg (s : Int) (l : List Int) (i : Int) : reachF s l i = (reach s (l.map (fun x => -x)) i).map (fun x => -x) := by
  unfold reachF reach
  rw [List.map_map, List.length_map]
  apply List.map_congr_left
  intro j hj
  have hj := List.mem_range.mp hj
  show l.getD j 0 - s * aI (i - j) = -((l.map (fun x => -x)).getD j 0 + s * aI (i - j))
  rw [List.getD_eq_getElem?_getD, List.getD_eq_getElem?_getD, List.getElem?_map, List.getElem?_eq_getElem hj]
  show l[j] - s * aI (i - j) = -(-l[j] + s * aI (i - j))
  omega
theorem fillTo_all {s : Int} (h0 : 0 ≤ s) (l : List Int) : fillTo s l = fillAll s l := by
  unfold fillTo fillAll
  rw [cutTo_all h0]
  unfold cutAll
  rw [List.map_map, List.length_map]
  apply List.map_congr_left
  intro i _
  show -(minOf (reach s (l.map (fun x => -x)) i)) = maxOf (reachF s l i)
  rw [reachF_neg, maxOf_neg]
end Pl
namespace Pl
theorem UpL.mono {s t : Int} (h : s ≤ t) : ∀ {l : List Int}, UpL s l → UpL t l
  | [], _ => trivial
  | [_], _ => trivial
  | x :: y :: r, g => ⟨by have := g.1; omega, UpL.mono h g.2⟩
theorem UpR.mono {s t : Int} (h : s ≤ t) : ∀ {l : List Int}, UpR s l → UpR t l
  | [], _ => trivial
  | [_], _ => trivial
  | x :: y :: r, g => ⟨by have := g.1; omega, UpR.mono h g.2⟩
theorem Gentle.mono {s t : Int} (h : s ≤ t) {l : List Int} (g : Gentle s l) : Gentle t l := ⟨g.1.mono h, g.2.mono h⟩
theorem lq_shift {c : Int} : ∀ {a b : List Int}, Lq a b → Lq (a.map (fun x => x + c)) (b.map (fun x => x + c))
  | [], [], _ => trivial
  | x :: a, y :: b, h => ⟨by show x + c ≤ y + c; have := h.1; omega, lq_shift h.2⟩
  | [], _ :: _, h => h.elim
  | _ :: _, [], h => h.elim
theorem shift_shift (c d : Int) (l : List Int) : (l.map (fun x => x + c)).map (fun x => x + d) = l.map (fun x => x + (c + d)) := by
  rw [List.map_map]; apply List.map_congr_left; intro x _; show x + c + d = x + (c + d); omega
theorem shift_zero (l : List Int) : l.map (fun x => x + 0) = l := by
  have : (fun x : Int => x + 0) = id := by funext x; simp
  rw [this, List.map_id]
theorem cutTo_mono {s : Int} (h0 : 0 ≤ s) {a b : List Int} (h : Lq a b) : Lq (cutTo s a) (cutTo s b) := cutTo_max (cutTo_gentle h0 a) ((cutTo_le s a).trans h)
theorem fillTo_mono {s : Int} (h0 : 0 ≤ s) {a b : List Int} (h : Lq a b) : Lq (fillTo s a) (fillTo s b) := fillTo_min (fillTo_gentle h0 b) (h.trans (fillTo_ge s b))
theorem cutTo_twice {s t : Int} (hs : 0 ≤ s) (ht : 0 ≤ t) (l : List Int) : cutTo t (cutTo s l) = cutTo (min s t) l := by
  rcases Int.le_total s t with h | h
  · rw [show min s t = s by omega]
    exact (cutTo_idle ht).mpr ((cutTo_gentle hs l).mono h)
  · rw [show min s t = t by omega]
    refine Lq.antisymm (cutTo_max (cutTo_gentle ht _) ((cutTo_le t _).trans (cutTo_le s l))) ?_
    exact cutTo_max (cutTo_gentle ht l) (cutTo_max ((cutTo_gentle ht l).mono h) (cutTo_le t l))
theorem fillTo_neg (s : Int) (l : List Int) : fillTo s (l.map (fun x => -x)) = (cutTo s l).map (fun x => -x) := by
  unfold fillTo; rw [neg_neg_map]
theorem cutTo_neg (s : Int) (l : List Int) : cutTo s (l.map (fun x => -x)) = (fillTo s l).map (fun x => -x) := by
  unfold fillTo; rw [neg_neg_map]
theorem fillTo_twice {s t : Int} (hs : 0 ≤ s) (ht : 0 ≤ t) (l : List Int) : fillTo t (fillTo s l) = fillTo (min s t) l := by
  show fillTo t ((cutTo s (l.map (fun x => -x))).map (fun x => -x)) = _
  rw [fillTo_neg, cutTo_twice hs ht]; rfl
theorem cutTo_shift {s : Int} (h0 : 0 ≤ s) (c : Int) (l : List Int) : cutTo s (l.map (fun x => x + c)) = (cutTo s l).map (fun x => x + c) := by
  refine Lq.antisymm ?_ (cutTo_max (gentle_shift (cutTo_gentle h0 l)) (lq_shift (cutTo_le s l)))
  have h1 : Lq ((cutTo s (l.map (fun x => x + c))).map (fun x => x + -c)) (cutTo s l) := by
    refine cutTo_max (gentle_shift (cutTo_gentle h0 _)) ?_
    have := lq_shift (c := -c) (cutTo_le s (l.map (fun x => x + c)))
    rw [shift_shift, show c + -c = 0 by omega, shift_zero] at this
    exact this
  have := lq_shift (c := c) h1
  rw [shift_shift, show -c + c = 0 by omega, shift_zero] at this
  exact this
theorem neg_shift (c : Int) (l : List Int) : (l.map (fun x => x + c)).map (fun x => -x) = (l.map (fun x => -x)).map (fun x => x + -c) := by
  rw [List.map_map, List.map_map]; apply List.map_congr_left; intro x _; show -(x + c) = -x + -c; omega
theorem fillTo_shift {s : Int} (h0 : 0 ≤ s) (c : Int) (l : List Int) : fillTo s (l.map (fun x => x + c)) = (fillTo s l).map (fun x => x + c) := by
  unfold fillTo
  rw [neg_shift, cutTo_shift h0, neg_shift, show - -c = c by omega]
theorem lq_append : ∀ {a b c d : List Int}, Lq a b → Lq c d → Lq (a ++ c) (b ++ d)
  | [], [], _, _, _, h => h
  | x :: a, y :: b, _, _, g, h => ⟨g.1, lq_append g.2 h⟩
  | [], _ :: _, _, _, g, _ => g.elim
  | _ :: _, [], _, _, g, _ => g.elim
theorem lq_reverse : ∀ {a b : List Int}, Lq a b → Lq a.reverse b.reverse
  | [], [], _ => trivial
  | x :: a, y :: b, h => by rw [List.reverse_cons, List.reverse_cons]; exact lq_append (lq_reverse h.2) ⟨h.1, trivial⟩
  | [], _ :: _, h => h.elim
  | _ :: _, [], h => h.elim
theorem upL_append {s x y : Int} : ∀ {a b : List Int}, UpL s (a ++ [x]) → UpL s (y :: b) → y ≤ x + s → UpL s (a ++ x :: y :: b)
  | [], _, _, h2, h => ⟨h, h2⟩
  | [a], _, h1, h2, h => ⟨h1.1, h, h2⟩
  | a :: c :: l, _, h1, h2, h => ⟨h1.1, upL_append (a := c :: l) h1.2 h2 h⟩
theorem upR_append {s x y : Int} : ∀ {a b : List Int}, UpR s (a ++ [x]) → UpR s (y :: b) → x ≤ y + s → UpR s (a ++ x :: y :: b)
  | [], _, _, h2, h => ⟨h, h2⟩
  | [a], _, h1, h2, h => ⟨h1.1, h, h2⟩
  | a :: c :: l, _, h1, h2, h => ⟨h1.1, upR_append (a := c :: l) h1.2 h2 h⟩
theorem upL_reverse {s : Int} : ∀ {l : List Int}, UpL s l → UpR s l.reverse
  | [], _ => trivial
  | [_], _ => trivial
  | x :: y :: r, h => by
    have ih := upL_reverse (l := y :: r) h.2
    rw [List.reverse_cons] at ih ⊢
    rw [List.reverse_cons, List.append_assoc]
    exact upR_append ih trivial h.1
theorem upR_reverse {s : Int} : ∀ {l : List Int}, UpR s l → UpL s l.reverse
  | [], _ => trivial
  | [_], _ => trivial
  | x :: y :: r, h => by
    have ih := upR_reverse (l := y :: r) h.2
    rw [List.reverse_cons] at ih ⊢
    rw [List.reverse_cons, List.append_assoc]
    exact upL_append ih trivial h.1
theorem Gentle.reverse {s : Int} {l : List Int} (h : Gentle s l) : Gentle s l.reverse := ⟨upR_reverse h.2, upL_reverse h.1⟩
theorem cutTo_reverse {s : Int} (h0 : 0 ≤ s) (l : List Int) : cutTo s l.reverse = (cutTo s l).reverse := by
  refine Lq.antisymm ?_ (cutTo_max (cutTo_gentle h0 l).reverse (lq_reverse (cutTo_le s l)))
  have h1 : Lq (cutTo s l.reverse).reverse (cutTo s l) := by
    refine cutTo_max (cutTo_gentle h0 _).reverse ?_
    have := lq_reverse (cutTo_le s l.reverse)
    rw [List.reverse_reverse] at this
    exact this
  have := lq_reverse h1
  rw [List.reverse_reverse] at this
  exact this
theorem fillTo_reverse {s : Int} (h0 : 0 ≤ s) (l : List Int) : fillTo s l.reverse = (fillTo s l).reverse := by
  unfold fillTo
  rw [List.map_reverse, cutTo_reverse h0, List.map_reverse]
theorem add_le_shift {M : Int} : ∀ {a m : List Int}, a.length = m.length → (∀ x ∈ m, x ≤ M) → Lq (List.zipWith (fun x y => x + y) a m) (a.map (fun x => x + M))
  | [], [], _, _ => trivial
  | x :: a, y :: m, hl, h => ⟨by show x + y ≤ x + M; have := h y (by simp); omega, add_le_shift (by simpa using hl) fun z hz => h z (by simp [hz])⟩
  | [], _ :: _, h, _ => by simp at h
  | _ :: _, [], h, _ => by simp at h
theorem le_add_nonneg : ∀ {a m : List Int}, a.length = m.length → (∀ x ∈ m, 0 ≤ x) → Lq a (List.zipWith (fun x y => x + y) a m)
  | [], [], _, _ => trivial
  | x :: a, y :: m, hl, h => ⟨by show x ≤ x + y; have := h y (by simp); omega, le_add_nonneg (by simpa using hl) fun z hz => h z (by simp [hz])⟩
  | [], _ :: _, h, _ => by simp at h
  | _ :: _, [], h, _ => by simp at h
theorem diff_le {M : Int} : ∀ {a b : List Int}, Lq b (a.map (fun x => x + M)) → ∀ t ∈ List.zipWith (fun x y => y - x) a b, t ≤ M
  | [], [], _ => by simp
  | x :: a, y :: b, h => by
    intro t ht
    rw [List.zipWith_cons_cons] at ht
    rcases List.mem_cons.mp ht with e | ht
    · have h1 : y ≤ x + M := h.1
      omega
    · exact diff_le h.2 t ht
  | [], _ :: _, h => h.elim
  | _ :: _, [], h => h.elim
theorem maxOf_le {l : List Int} {m : Int} (hl : l ≠ []) (h : ∀ x ∈ l, x ≤ m) : maxOf l ≤ m := by
  cases l with
  | nil => exact absurd rfl hl
  | cons y r => exact foldl_max_le.mpr ⟨h y (by simp), fun x hx => h x (by simp [hx])⟩
theorem le_maxOf {l : List Int} {x : Int} (h : x ∈ l) : x ≤ maxOf l := by
  cases l with
  | nil => simp at h
  | cons y r =>
    have := (foldl_max_le (m := r.foldl max y) (a := y) (l := r)).mp (Int.le_refl _)
    rcases List.mem_cons.mp h with e | h
    · rw [e]; exact this.1
    · exact this.2 x h
end Pl
namespace Pl
open PySem PySem.Spec PyProof.Rows L2
abbrev N_steepest : List Str := [("dune" : Str), ("left" : Str), ("right" : Str)]
def T_steepest : TSp :=
  (pRet (pVal (pDflt max (pLc (jZ2 (pCons (pVar 0) (pCons (pSl (pVar 0) (pPart (pC (.int 1))) pNoPart) pNil))) (hTup 2 (hCons (hName 1) (hCons (hName 2) hNil))) pYes (pCB fAbs (pCons (pOp fSub (pVar 2) (pVar 1)) pNil)) [1, 2]) (pC (.int 0)))))
abbrev N_mirrored : List Str := [("dune" : Str)]
def T_mirrored : TSp :=
  (pRet (pVal (pCB fTup (pCons (pUn fRev (pVar 0)) pNil))))
abbrev N_upside : List Str := [("dune" : Str), ("height" : Str)]
def T_upside : TSp :=
  (pRet (pVal (pCB fTup (pCons (pLc (jSeq (pVar 0)) (hName 1) pYes (pUn fNeg (pVar 1)) [1]) pNil))))
abbrev N_blown : List Str := [("dune" : Str), ("wind" : Str), ("word" : Str), ("slope" : Str)]
def T_blown (g_upside : FA) (g_cut_to : FA) : TSp :=
  (pSeq (pAsg (pVar 1) (hTup 2 (hCons (hName 2) (hCons (hName 3) hNil))))
    (pSeq (pIfS (pTest (pOp fEq (pVar 2) (pC (.str "cut"))))
    (pRet (pCallA 2 g_cut_to (pCons (pVar 0) (pCons (pVar 3) pNil))))
    pNext)
    (pRet (pCallA 1 g_upside (pCons (pFrz (pCallA 2 g_cut_to (pCons (pFrz (pCallA 1 g_upside (pCons (pVar 0) pNil))) (pCons (pVar 3) pNil)))) pNil)))))
abbrev N_cut_to : List Str := [("dune" : Str), ("slope" : Str), ("onward" : Str)]
def T_cut_to (g_mirrored : FA) (g_cut_onward : FA) : TSp :=
  (pSeq (pSet 2 (pCallA 2 g_cut_onward (pCons (pVar 0) (pCons (pVar 1) pNil))))
    (pRet (pCallA 1 g_mirrored (pCons (pFrz (pCallA 2 g_cut_onward (pCons (pFrz (pCallA 1 g_mirrored (pCons (pVar 2) pNil))) (pCons (pVar 1) pNil)))) pNil))))
abbrev N_cut_onward : List Str := [("dune" : Str), ("slope" : Str), ("heights" : Str), ("height" : Str)]
def T_cut_onward : TSp :=
  (pSeq (pSet 2 (pLstO (pCons (pIxO 0 (pC (.int 0))) pNil)))
    (pSeq (pFor (jSeq (pSl (pVar 0) (pPart (pC (.int 1))) pNoPart)) (hName 3)
    (pAppend 2 (pCB fMin2 (pCons (pVar 3) (pCons (pOp fAdd (pIxO 2 (pUn fNeg (pC (.int 1)))) (pVar 1)) pNil)))))
    (pRet (pMove 2))))
abbrev N_is_idle : List Str := [("dune" : Str), ("wind" : Str)]
def T_is_idle (g_steepest : FA) : TSp :=
  (pRet (pVal (pOp fLe (pFrz (pCallA 1 g_steepest (pCons (pVar 0) pNil))) (pIxO 1 (pC (.int 1))))))
abbrev N__law_cell_at : List Str := [("_law_script" : Str), ("_law_k" : Str)]
def T__law_cell_at : TSp :=
  (pSeq (pIfS (pTest (pOp fLt (pVar 1) (pLenO 0)))
    (pRet (pVal (pIxO 0 (pVar 1))))
    pNext)
    (pRet (pVal (pC (.int 0)))))
abbrev N__law_box : List Str := [("_law_script" : Str), ("_law_k" : Str), ("_law_cell" : Str)]
def T__law_box (g__law_cell_at : FA) : TSp :=
  (pSeq (pSet 2 (pCallA 2 g__law_cell_at (pCons (pVar 0) (pCons (pVar 1) pNil))))
    (pRet (pLstO (pCons (pOp fMulI (pCB fAbs (pCons (pVar 2) pNil)) (pCB fInt1 (pCons (pOp fGe (pCB fAbs (pCons (pVar 2) pNil)) (pC (.int 1000000000000000000))) pNil))) (pCons (pOp fAdd (pOp fAdd (pOp fMod (pVar 2) (pC (.int 2305843009213693951))) (pOp fMulI (pC (.int 39373)) (pVar 1))) (pC (.int 17))) (pCons (pC (.int 0)) pNil))))))
abbrev N__law_take : List Str := [("_law_box_here" : Str), ("_law_size" : Str), ("_law_told" : Str), ("_law_once" : Str), ("_law_twice" : Str)]
def T__law_take (g__law_take : FB) : TSp :=
  (pSeq (pIfS (pTest (pOp fGt (pIxO 0 (pC (.int 0))) (pC (.int 0))))
    (pSeq (pSet 2 (pVal (pOp fMod (pIxO 0 (pC (.int 0))) (pVar 1))))
    (pSeq (pStore 0 (pC (.int 0)) (pOp fDiv (pIxO 0 (pC (.int 0))) (pVar 1)))
    (pRet (pMove 2))))
    pNext)
    (pSeq (pIfS (pTest (pOp fGt (pVar 1) (pC (.int 10000000))))
    (pRet (pVal (pOp fMod (pOp fAdd (pFrz (pCallB 0 2 g__law_take (pCons (pC (.int 10000000)) pNil))) (pOp fMulI (pC (.int 10000000)) (pFrz (pCallB 0 2 g__law_take (pCons (pOp fAdd (pOp fDiv (pOp fSub (pVar 1) (pC (.int 1))) (pC (.int 10000000))) (pC (.int 1))) pNil))))) (pVar 1))))
    pNext)
    (pSeq (pStore 0 (pC (.int 2)) (pOp fAdd (pIxO 0 (pC (.int 2))) (pC (.int 1))))
    (pSeq (pSet 3 (pVal (pOp fMod (pOp fMulI (pOp fAdd (pIxO 0 (pC (.int 1))) (pOp fMulI (pC (.int 48271)) (pIxO 0 (pC (.int 2))))) (pOp fAdd (pC (.int 39373)) (pIxO 0 (pC (.int 2))))) (pC (.int 2147483647)))))
    (pSeq (pSet 4 (pVal (pOp fMod (pOp fMulI (pOp fAdd (pOp fAdd (pVar 3) (pIxO 0 (pC (.int 2)))) (pOp fDiv (pIxO 0 (pC (.int 1))) (pC (.int 1000003)))) (pOp fAdd (pOp fMod (pVar 3) (pC (.int 40009))) (pC (.int 7)))) (pC (.int 2147483629)))))
    (pRet (pVal (pOp fMod (pOp fDiv (pOp fMod (pOp fAdd (pOp fMulI (pVar 4) (pC (.int 48271))) (pVar 3)) (pC (.int 2147483587))) (pC (.int 64))) (pVar 1)))))))))
abbrev N__law_of : List Str := [("_law_box_here" : Str), ("_law_some" : Str)]
def T__law_of (g__law_take : FB) : TSp :=
  (pRet (pVal (pIxO 1 (pFrz (pCallB 0 2 g__law_take (pCons (pLenO 1) pNil))))))
abbrev N__law_dune : List Str := [("_law_box_here" : Str), ("_law_size" : Str), ("_law_many" : Str), ("_law_wide" : Str), ("_law_told" : Str), ("_law_pole" : Str)]
def T__law_dune (g__law_take : FB) : TSp :=
  (pSeq (pPar 2 3 (pCons (pOp fAdd (pC (.int 1)) (pFrz (pCallB 0 2 g__law_take (pCons (pVar 1) pNil)))) (pCons (pOp fIx (pLst (pCons (pC (.int 2)) (pCons (pC (.int 12)) (pCons (pC (.int 60)) (pCons (pC (.int 1000000000)) pNil))))) (pFrz (pCallB 0 2 g__law_take (pCons (pC (.int 4)) pNil)))) pNil)))
    (pSeq (pSet 4 (pLstO pNil))
    (pSeq (pFor (jRng1 (pCons (pVar 2) pNil)) (hName 5)
    (pAppend 4 (pOp fIx (pLst (pCons (pC (.int 0)) (pCons (pVar 3) (pCons (pOp fSub (pFrz (pCallB 0 2 g__law_take (pCons (pOp fAdd (pOp fMulI (pC (.int 2)) (pVar 3)) (pC (.int 1))) pNil))) (pVar 3)) (pCons (pFrz (pCallB 0 2 g__law_take (pCons (pOp fAdd (pVar 3) (pC (.int 1))) pNil))) pNil))))) (pFrz (pCallB 0 2 g__law_take (pCons (pC (.int 4)) pNil))))))
    (pRet (pVal (pCB fTup (pCons (pVar 4) pNil)))))))
abbrev N__law_steep : List Str := [("_law_hill" : Str), ("_law_here" : Str), ("_law_there" : Str)]
def T__law_steep : TSp :=
  (pRet (pVal (pCB (fBest max) (pCons (pOp fAdd (pLc (jZ2 (pCons (pVar 0) (pCons (pSl (pVar 0) (pPart (pC (.int 1))) pNoPart) pNil))) (hTup 2 (hCons (hName 1) (hCons (hName 2) hNil))) pYes (pCB fAbs (pCons (pOp fSub (pVar 1) (pVar 2)) pNil)) [1, 2]) (pLst (pCons (pC (.int 0)) pNil))) pNil))))
abbrev N_raised : List Str := [("dune" : Str), ("by" : Str), ("height" : Str)]
def T_raised : TSp :=
  (pRet (pVal (pCB fTup (pCons (pLc (jSeq (pVar 0)) (hName 2) pYes (pOp fAdd (pVar 2) (pVar 1)) [2]) pNil))))
abbrev N_days : List Str := [("dune" : Str), ("almanac" : Str), ("rows" : Str), ("wind" : Str)]
def T_days (g_blown : FA) : TSp :=
  (pSeq (pSet 2 (pLstO (pCons (pCB fTup (pCons (pVar 0) pNil)) pNil)))
    (pSeq (pFor (jSeq (pVar 1)) (hName 3)
    (pAppend 2 (pFrz (pCallA 2 g_blown (pCons (pIxO 2 (pUn fNeg (pC (.int 1)))) (pCons (pVar 3) pNil))))))
    (pRet (pMove 2))))
abbrev N_behind : List Str := [("dune" : Str), ("almanac" : Str)]
def T_behind (g_days : FA) : TSp :=
  (pRet (pVal (pOp fIx (pFrz (pCallA 2 g_days (pCons (pVar 0) (pCons (pVar 1) pNil)))) (pUn fNeg (pC (.int 1))))))
abbrev N__law_same : List Str := [("_law_told" : Str), ("_law_due" : Str), ("_law_here" : Str), ("_law_two" : Str)]
def T__law_same (g__law_same : FA) : TSp :=
  (pSeq (pIfS (pTest (pIsi2 D.isLst D.isTup (pVar 1)))
    (pSeq (pIfS (pOr (pTest (pOp fNe (pIsi D.isLst (pVar 0)) (pIsi D.isLst (pVar 1)))) (pTest (pOp fNe (pIsi D.isTup (pVar 0)) (pIsi D.isTup (pVar 1)))))
    (pRet (pVal (pC (.bl false))))
    pNext)
    (pRet (pVal (pAndV (pOp fEq (pLenO 0) (pLenO 1)) (pCB fAll (pCons (pLc (jZ2 (pCons (pVar 0) (pCons (pVar 1) pNil))) (hTup 2 (hCons (hName 2) (hCons (hName 3) hNil))) pYes (pFrz (pCallA 2 g__law_same (pCons (pVar 2) (pCons (pVar 3) pNil)))) [2, 3]) pNil))))))
    pNext)
    (pSeq (pIfS (pOr (pTest (pOp fIsN (pVar 1) (pC .non))) (pTest (pIsi2 D.isBl D.isStr (pVar 1))))
    (pRet (pVal (pAndV (pOp fEq (pVar 0) (pVar 1)) (pAndV (pOp fEq (pIsi D.isBl (pVar 0)) (pIsi D.isBl (pVar 1))) (pOp fEq (pOp fIsN (pVar 0) (pC .non)) (pOp fIsN (pVar 1) (pC .non)))))))
    pNext)
    (pRet (pVal (pAndV (pIsi D.isInt (pVar 0)) (pAndV (pNotV (pIsi D.isBl (pVar 0))) (pOp fEq (pVar 0) (pVar 1))))))))
abbrev N__law_blown : List Str := [("_law_hill" : Str), ("_law_gust" : Str), ("_law_sign" : Str), ("_law_slope_here" : Str), ("_law_told" : Str), ("_law_i" : Str), ("_law_j" : Str)]
def T__law_blown : TSp :=
  (pSeq (pAsg (pVar 1) (hTup 2 (hCons (hName 2) (hCons (hName 3) hNil))))
    (pSeq (pSet 4 (pLstO pNil))
    (pSeq (pFor (jRng1 (pCons (pLenO 0) pNil)) (hName 5)
    (pIfS (pTest (pOp fEq (pVar 2) (pC (.str "cut"))))
    (pAppend 4 (pCB (fBest min) (pCons (pLc (jRng1 (pCons (pLenO 0) pNil)) (hName 6) pYes (pOp fAdd (pIxO 0 (pVar 6)) (pOp fMulI (pVar 3) (pCB fAbs (pCons (pOp fSub (pVar 5) (pVar 6)) pNil)))) [6]) pNil)))
    (pAppend 4 (pCB (fBest max) (pCons (pLc (jRng1 (pCons (pLenO 0) pNil)) (hName 6) pYes (pOp fSub (pIxO 0 (pVar 6)) (pOp fMulI (pVar 3) (pCB fAbs (pCons (pOp fSub (pVar 5) (pVar 6)) pNil)))) [6]) pNil)))))
    (pRet (pVal (pCB fTup (pCons (pVar 4) pNil)))))))
abbrev N__law_slope : List Str := [("_law_box_here" : Str)]
def T__law_slope (g__law_take : FB) : TSp :=
  (pRet (pCallB 0 2 g__law_take (pCons (pOp fIx (pLst (pCons (pC (.int 4)) (pCons (pC (.int 9)) (pCons (pC (.int 40)) (pCons (pC (.int 1000000000)) pNil))))) (pFrz (pCallB 0 2 g__law_take (pCons (pC (.int 4)) pNil)))) pNil)))
abbrev N__law_behind : List Str := [("_law_hill" : Str), ("_law_winds" : Str), ("_law_gust" : Str)]
def T__law_behind (g__law_blown : FA) : TSp :=
  (pSeq (pFor (jSeq (pVar 1)) (hName 2)
    (pSet 0 (pCallA 2 g__law_blown (pCons (pVar 0) (pCons (pVar 2) pNil)))))
    (pRet (pVal (pCB fTup (pCons (pVar 0) pNil)))))
abbrev N_idle_in : List Str := [("dune" : Str), ("almanac" : Str), ("rows" : Str), ("number" : Str), ("wind" : Str)]
def T_idle_in (g_is_idle : FA) (g_days : FA) : TSp :=
  (pSeq (pSet 2 (pCallA 2 g_days (pCons (pVar 0) (pCons (pVar 1) pNil))))
    (pRet (pLcO (jE (pCons (pVar 1) pNil)) (hTup 2 (hCons (hName 3) (hCons (hName 4) hNil))) (pTest (pFrz (pCallA 2 g_is_idle (pCons (pIxO 2 (pVar 3)) (pCons (pVar 4) pNil))))) (pVar 3) [3, 4])))
abbrev N_gentlest : List Str := [("almanac" : Str), ("word" : Str), ("slope" : Str)]
def T_gentlest : TSp :=
  (pRet (pVal (pDflt min (pLc (jSeq (pVar 0)) (hTup 2 (hCons (hName 1) (hCons (hName 2) hNil))) pYes (pVar 2) [1, 2]) (pC .non))))
abbrev N_can_stand : List Str := [("dune" : Str), ("almanac" : Str)]
def T_can_stand (g_behind : FA) : TSp :=
  (pRet (pVal (pOp fEq (pFrz (pCallA 2 g_behind (pCons (pVar 0) (pCons (pVar 1) pNil)))) (pCB fTup (pCons (pVar 0) pNil)))))
abbrev N__law_winds : List Str := [("_law_box_here" : Str), ("_law_size" : Str), ("_law_turn" : Str)]
def T__law_winds (g__law_take : FB) (g__law_slope : FB) : TSp :=
  (pRet (pLcO (jRng1 (pCons (pFrz (pCallB 0 2 g__law_take (pCons (pOp fAdd (pVar 1) (pC (.int 1))) pNil))) pNil)) (hName 2) pYes (pTup (pCons (pOp fIx (pLst (pCons (pC (.str "cut")) (pCons (pC (.str "fill")) pNil))) (pFrz (pCallB 0 2 g__law_take (pCons (pC (.int 2)) pNil)))) (pCons (pFrz (pCallB 0 1 g__law_slope pNil)) pNil))) [2]))
end Pl
namespace Pl
open PySem PySem.Spec PyProof.Rows L2
/-! ### promises and readings -/
def g_steepest : FA := fun ds C => ∃ d ns, ds = [d] ∧ Sq d ns ∧ ns.length ≤ 1000 ∧ C (.val (.int (steep ns)))
def g_mirrored : FA := fun ds C => ∃ d ns, ds = [d] ∧ Sq d ns ∧ C (.val (.tup (dI ns.reverse)))
def g_upside : FA := fun ds C => ∃ d ns, ds = [d] ∧ Sq d ns ∧ ns.length ≤ 1000 ∧ C (.val (.tup (dI (ns.map fun x => -x))))
def g_cut_onward : FA := fun ds C => ∃ d ns s, ds = [d, .int s] ∧ Sq d ns ∧ ns ≠ [] ∧ ns.length ≤ 1000 ∧ ∀ a, C (.own a (dI (cutOn s ns)))
def g_cut_to : FA := fun ds C => ∃ d ns s, ds = [d, .int s] ∧ Sq d ns ∧ ns ≠ [] ∧ ns.length ≤ 1000 ∧ C (.val (.tup (dI (cutTo s ns))))
theorem zip_gaps : ∀ ns : List Int, List.zipWith (fun x y => D.int (iabs (y - x))) ns (ns.drop 1) = dI (gaps ns)
  | [] => rfl
  | [_] => rfl
  | x :: y :: r => by
    show D.int (iabs (y - x)) :: List.zipWith (fun x y => D.int (iabs (y - x))) (y :: r) ((y :: r).drop 1) = D.int (gap x y) :: dI (gaps (y :: r))
    rw [zip_gaps (y :: r)]; rfl
theorem best_gaps : ∀ ns : List Int, bestDD max (.int 0) (gaps ns) = .int (steep ns)
  | [] => rfl
  | [_] => rfl
  | x :: y :: r => by
    rw [steep_cons]; rfl
theorem rd_steepest : ∀ ds C, ds.length = 1 → g_steepest ds C → T_steepest { nx := fun _ => C (.val .non), rt := fun c _ => C c } (startA N_steepest ds) := by
  rintro ds C - ⟨d, ns, rfl, hd, hl, hC⟩
  have key : lcW [1, 2] (hTup 2 (hCons (hName 1) (hCons (hName 2) hNil))) pYes (pCB fAbs (pCons (pOp fSub (pVar 2) (pVar 1)) pNil)) (fun acc ρ2 => ∃ ms, acc = dI ms ∧ C (.val (bestDD max (.int 0) ms))) (zipD (dI ns) (dI (ns.drop 1))) [] [some (.val d), none, none] := by
    refine lcW_z2 (h := fun x y => .int (iabs (y - x))) (fun x _ y _ K hK => ⟨rfl, rfl, hK _ rfl⟩) hl ⟨gaps ns, zip_gaps ns, ?_⟩
    rw [best_gaps]; exact hC
  rcases hd with rfl | rfl
  · show lcW [1, 2] _ pYes _ _ (zipD (dI ns) (cutD (dI ns) (some 1) none)) [] _
    rw [cutD_from1, drop1_ints]
    exact key
  · show lcW [1, 2] _ pYes _ _ (zipD (dI ns) (cutD (dI ns) (some 1) none)) [] _
    rw [cutD_from1, drop1_ints]
    exact key
theorem rd_mirrored : ∀ ds C, ds.length = 1 → g_mirrored ds C → T_mirrored { nx := fun _ => C (.val .non), rt := fun c _ => C c } (startA N_mirrored ds) := by
  rintro ds C - ⟨d, ns, rfl, hd, hC⟩
  unfold dI at hC
  rw [List.map_reverse] at hC
  rcases hd with rfl | rfl <;> exact hC
theorem rd_upside : ∀ ds C, ds.length = 1 → g_upside ds C → T_upside { nx := fun _ => C (.val .non), rt := fun c _ => C c } (startA N_upside ds) := by
  rintro ds C - ⟨d, ns, rfl, hd, hl, hC⟩
  have key : lcW [1] (hName 1) pYes (pUn fNeg (pVar 1)) (fun acc ρ2 => C (.val (.tup acc))) (dI ns) [] [some (.val d), none] := by
    refine lcW_ints (h := fun x => .int (-x)) (fun x _ K hK => hK _ rfl) hl ?_
    unfold dI at hC
    rw [List.map_map] at hC
    exact hC
  rcases hd with rfl | rfl <;> exact key
theorem cutOn_cons_ints (s x : Int) (r : List Int) : dI (cutOn s (x :: r)) = .int x :: dI (cutFrom s x r) := rfl
theorem rd_cut_onward : ∀ ds C, ds.length = 2 → g_cut_onward ds C → T_cut_onward { nx := fun _ => C (.val .non), rt := fun c _ => C c } (startA N_cut_onward ds) := by
  rintro ds C - ⟨d, ns, s, rfl, hd, hne, hl, hC⟩
  cases ns with
  | nil => exact absurd rfl hne
  | cons x r =>
    have key : ∀ (dd : D) (a : Addr) (w : Option Cell) (P : PEnds), (∀ ρ, (∃ w, ρ = [some (.val dd), some (.val (.int s)), some (.own a (dI (cutOn s (x :: r)))), w]) → P.nx ρ) → forW (hName 3) (pAppend 2 (pCB fMin2 (pCons (pVar 3) (pCons (pOp fAdd (pIxO 2 (pUn fNeg (pC (.int 1)))) (pVar 1)) pNil)))) P (dI r) [some (.val dd), some (.val (.int s)), some (.own a [.int x]), w] := by
      intro dd a w P hP
      refine for_inv (fun ds ρ => ∃ (done : List Int) (p : Int) (rest : List Int) (w : Option Cell), ds = dI rest ∧ ρ = [some (.val dd), some (.val (.int s)), some (.own a (dI (done ++ [p]))), w] ∧ cutOn s (x :: r) = done ++ p :: cutFrom s p rest) (fun d rst ρ K hK hI => ?_) (fun ρ hI => ?_) (dI r) _ ⟨[], x, r, w, rfl, rfl, rfl⟩
      · obtain ⟨done, p, rest, w, e1, rfl, e3⟩ := hI
        cases rest with
        | nil => cases e1
        | cons h rest =>
          cases e1
          have hlen : (dI (done ++ [p])).length ≤ 1000 := by
            have := congrArg List.length e3
            rw [cutOn_len] at this
            simp at this ⊢
            simp at hl
            omega
          refine ⟨dI (done ++ [p]), -1, .int p, rfl, rfl, ?_, dI (done ++ [p]), rfl, small1000 hlen, ?_⟩
          · rw [show dI (done ++ [p]) = dI done ++ [.int p] from by simp]
            exact atI_last _ _
          · refine hK _ ⟨done ++ [p], min h (p + s), rest, some (.val (.int h)), rfl, ?_, ?_⟩
            · rw [show dI (done ++ [p] ++ [min h (p + s)]) = dI (done ++ [p]) ++ [.int (min h (p + s))] from by simp]
              rfl
            · rw [e3]; simp [cutFrom]
      · obtain ⟨done, p, rest, w, e1, rfl, e3⟩ := hI
        cases rest with
        | cons h rest => cases e1
        | nil =>
          refine hP _ ⟨w, ?_⟩
          rw [e3]; rfl
    have hz : (1 : Nat) ≤ sizeLine := by decide
    rcases hd with rfl | rfl
    · refine ⟨.int x, atI_zero _ _, hz, fun a => ?_⟩
      show forW _ _ _ (cutD (dI (x :: r)) (some 1) none) _
      rw [cutD_from1]
      refine key _ a _ _ fun ρ ⟨w, e⟩ => ?_
      subst e
      exact hC a
    · refine ⟨.int x, atI_zero _ _, hz, fun a => ?_⟩
      show forW _ _ _ (cutD (dI (x :: r)) (some 1) none) _
      rw [cutD_from1]
      refine key _ a _ _ fun ρ ⟨w, e⟩ => ?_
      subst e
      exact hC a
theorem rev_ne {l : List Int} (h : l ≠ []) : l.reverse ≠ [] := by simpa using h
theorem ne_len {l m : List Int} (h : l.length = m.length) (hm : m ≠ []) : l ≠ [] := by
  intro e; subst e; cases m with
  | nil => exact hm rfl
  | cons _ _ => cases h
theorem rd_cut_to : ∀ ds C, ds.length = 2 → g_cut_to ds C → T_cut_to g_mirrored g_cut_onward { nx := fun _ => C (.val .non), rt := fun c _ => C c } (startA N_cut_to ds) := by
  rintro ds C - ⟨d, ns, s, rfl, hd, hne, hl, hC⟩
  refine ⟨rfl, d, ns, s, rfl, hd, hne, hl, fun a => ?_⟩
  refine ⟨rfl, _, cutOn s ns, rfl, .inr rfl, rfl, _, (cutOn s ns).reverse, s, rfl, .inl rfl, rev_ne (ne_len (cutOn_len s ns) hne), by rw [List.length_reverse, cutOn_len]; exact hl, fun b => ?_⟩
  exact ⟨rfl, _, _, rfl, .inr rfl, hC⟩
/-- a wind as data -/
def wordS : Bool → Str
  | true => "cut"
  | false => "fill"
def windD (cut : Bool) (s : Int) : D := .tup [.str (wordS cut), .int s]
def blownL (cut : Bool) (s : Int) (ns : List Int) : List Int := if cut = true then cutTo s ns else fillTo s ns
def g_blown : FA := fun ds C => ∃ d ns cut s, ds = [d, windD cut s] ∧ Sq d ns ∧ ns ≠ [] ∧ ns.length ≤ 1000 ∧ C (.val (.tup (dI (blownL cut s ns))))
theorem sh_cut : (D.str "cut").sh := by unfold D.sh; decide +kernel
theorem sh_fill : (D.str "fill").sh := by unfold D.sh; decide +kernel
theorem sh_int (i : Int) : (D.int i).sh := by unfold D.sh toPy; rfl
theorem sh_bl (i : Bool) : (D.bl i).sh := by unfold D.sh toPy; rfl
theorem canLay_ints : ∀ ns : List Int, PyData.canLayAll0 (toPys (dI ns)) = true
  | [] => rfl
  | n :: ns => by
    show (PyData.canLay0 (toPy (.int n)) && PyData.canLayAll0 (toPys (dI ns))) = true
    rw [canLay_ints ns]; rfl
theorem depth_dI : ∀ ns : List Int, PyData.depthAll (toPys (dI ns)) = 0
  | [] => rfl
  | n :: ns => by
    show max (PyData.depth (toPy (.int n))) (PyData.depthAll (toPys (dI ns))) = 0
    rw [depth_dI ns]; rfl
theorem sh_tupI (ns : List Int) : (D.tup (dI ns)).sh := by
  show (PyData.canLayAll0 (toPys (dI ns)) && decide (PyData.depthAll (toPys (dI ns)) + 1 ≤ 64)) = true
  rw [canLay_ints, depth_dI]; rfl
theorem sh_lstI (ns : List Int) : (D.lst (dI ns)).sh := by
  show (PyData.canLayAll0 (toPys (dI ns)) && decide (PyData.depthAll (toPys (dI ns)) + 1 ≤ 64)) = true
  rw [canLay_ints, depth_dI]; rfl
theorem eqvAll_dI : ∀ a b : List Int, PyData.eqvAll (toPys (dI a)) (toPys (dI b)) = decide (a = b)
  | [], [] => rfl
  | [], _ :: _ => rfl
  | _ :: _, [] => rfl
  | x :: a, y :: b => by
    show (x == y && PyData.eqvAll (toPys (dI a)) (toPys (dI b))) = _
    rw [eqvAll_dI a b]
    by_cases h1 : x = y
    · subst h1; simp
    · have : (x == y) = false := by simpa using h1
      rw [this]; simp [h1]
theorem eqv_tupI (a b : List Int) : (D.tup (dI a)).eqv (.tup (dI b)) = decide (a = b) := eqvAll_dI a b
theorem eqv_lstI (a b : List Int) : (D.lst (dI a)).eqv (.lst (dI b)) = decide (a = b) := eqvAll_dI a b
theorem eqv_bl (a b : Bool) : (D.bl a).eqv (.bl b) = (a == b) := rfl
theorem eqv_int (a b : Int) : (D.int a).eqv (.int b) = (a == b) := rfl
theorem rd_blown : ∀ ds C, ds.length = 2 → g_blown ds C → T_blown g_upside g_cut_to { nx := fun _ => C (.val .non), rt := fun c _ => C c } (startA N_blown ds) := by
  rintro ds C - ⟨d, ns, cut, s, rfl, hd, hne, hl, hC⟩
  cases cut with
  | true =>
    refine ⟨rfl, rfl, sh_cut, sh_cut, ifT (by decide +kernel) ?_⟩
    exact ⟨rfl, d, ns, s, rfl, hd, hne, hl, hC⟩
  | false =>
    refine ⟨rfl, rfl, sh_fill, sh_cut, ifF (by decide +kernel) ?_⟩
    refine ⟨rfl, d, ns, rfl, hd, hl, rfl, _, _, s, rfl, .inl rfl, by simpa using hne, by simpa using hl, rfl, _, _, rfl, .inl rfl, by rw [cutTo_len]; simpa using hl, ?_⟩
    exact hC
def g_is_idle : FA := fun ds C => ∃ d ns cut s, ds = [d, windD cut s] ∧ Sq d ns ∧ ns.length ≤ 1000 ∧ C (.val (.bl (decide (steep ns ≤ s))))
theorem rd_is_idle : ∀ ds C, ds.length = 2 → g_is_idle ds C → T_is_idle g_steepest { nx := fun _ => C (.val .non), rt := fun c _ => C c } (startA N_is_idle ds) := by
  rintro ds C - ⟨d, ns, cut, s, rfl, hd, hl, hC⟩
  exact ⟨rfl, d, ns, rfl, hd, hl, .int s, rfl, hC⟩
/-! ### the script, the box -/
def g__law_cell_at : FA := fun ds C => ∃ ns k, ds = [.scr ns, .int k] ∧ 0 ≤ k ∧ ∀ n, C (.val (.int n))
theorem rd__law_cell_at : ∀ ds C, ds.length = 2 → g__law_cell_at ds C → T__law_cell_at { nx := fun _ => C (.val .non), rt := fun c _ => C c } (startA N__law_cell_at ds) := by
  rintro ds C - ⟨ns, k, rfl, hk, hC⟩
  refine ifB (fun h => ?_) (fun h => ?_)
  · have h := dT h
    obtain ⟨j, rfl⟩ := Int.eq_ofNat_of_zero_le hk
    have hj : j < ns.length := by simpa using h
    exact ⟨ns[j], atI_nat (List.getElem?_eq_getElem hj), hC _⟩
  · exact hC _
def Bx (n : Nat) (xs : List D) : Prop := ∃ a b c : Int, xs = [.int a, .int b, .int c] ∧ 0 ≤ a ∧ 0 ≤ b ∧ b ≤ 2 ^ 62 ∧ 0 ≤ c ∧ c ≤ n
theorem Bx.mono {n m : Nat} {xs : List D} (h : Bx n xs) (hm : n ≤ m) : Bx m xs := by
  obtain ⟨a, b, c, h1, h2, h3, h4, h5, h6⟩ := h
  exact ⟨a, b, c, h1, h2, h3, h4, h5, by omega⟩
def g__law_box : FA := fun ds C => ∃ ns k, ds = [.scr ns, .int k] ∧ 0 ≤ k ∧ k ≤ 1000000 ∧ ∀ a xs, Bx 0 xs → C (.own a xs)
theorem iabs_nonneg (i : Int) : 0 ≤ iabs i := by unfold iabs; split <;> omega
theorem rd__law_box : ∀ ds C, ds.length = 2 → g__law_box ds C → T__law_box g__law_cell_at { nx := fun _ => C (.val .non), rt := fun c _ => C c } (startA N__law_box ds) := by
  rintro ds C - ⟨ns, k, rfl, hk, hk2, hC⟩
  refine ⟨rfl, ns, k, rfl, hk, fun n => ?_⟩
  refine ⟨.inr ?_, (by show (0 : Int) < 2305843009213693951; decide), .inl (by constructor <;> decide), by show (3 : Nat) ≤ sizeLine; decide, fun a => hC a _ ⟨_, _, _, rfl, ?_, ?_, ?_, Int.le_refl _, Int.le_refl _⟩⟩
  · constructor <;> split <;> decide
  · refine Int.mul_nonneg (iabs_nonneg n) ?_
    split <;> decide
  · have := Int.emod_nonneg n (b := 2305843009213693951) (by decide)
    omega
  · have := Int.emod_lt_of_pos n (b := 2305843009213693951) (by decide)
    omega
/-- a draw below size -/
def g_take (top : Int) : FB := fun xs ds C => ∃ n size, n ≤ 1000000000000 ∧ Bx n xs ∧ ds = [.int size] ∧ 0 < size ∧ size ≤ top ∧ ∀ r ys, 0 ≤ r → r < size → Bx (n + 2) ys → C (.val (.int r)) ys
def g_none : FB := fun _ _ _ => False
def g_take0 : FB := fun xs ds C => ∃ n size, n ≤ 1000000000001 ∧ Bx n xs ∧ ds = [.int size] ∧ 0 < size ∧ size ≤ 10000000 ∧ ∀ r ys, 0 ≤ r → r < size → Bx (n + 1) ys → C (.val (.int r)) ys
theorem rd_take0g (gg : FB) : ∀ a xs ds C, ds.length + 1 = 2 → g_take0 xs ds C → T__law_take gg { nx := fun ρ => ∃ ys, ρ[0]? = some (some (.own a ys)) ∧ C (.val .non) ys, rt := fun c ρ => ∃ ys, ρ[0]? = some (some (.own a ys)) ∧ C c ys } (startB N__law_take a xs ds) := by
  rintro a xs ds C - ⟨n, size, hn, ⟨b0, b1, b2, rfl, h0, h1, h1', h2, h2'⟩, rfl, hs0, hs, hC⟩
  refine ⟨_, _, _, rfl, rfl, rfl, ifB (fun h => ?_) (fun h => ?_)⟩
  · have h := dT h
    refine ⟨_, _, _, rfl, rfl, rfl, hs0, _, _, _, rfl, rfl, rfl, ⟨hs0, by omega⟩, _, _, _, rfl, rfl, rfl, _, rfl, hC _ _ (Int.emod_nonneg _ (by omega)) (Int.emod_lt_of_pos _ hs0) ⟨_, _, _, rfl, Int.ediv_nonneg h0 (by omega), h1, h1', h2, by omega⟩⟩
  · refine ifF (decide_eq_false (by omega)) ?_
    refine ⟨_, _, _, rfl, rfl, rfl, _, _, _, rfl, rfl, rfl, ?_⟩
    refine ⟨_, _, _, rfl, rfl, rfl, _, _, _, rfl, rfl, rfl, .inl ⟨by decide, by decide⟩, _, _, _, rfl, rfl, rfl, .inr ⟨?_, ?_⟩, (by show (0 : Int) < 2147483647; decide), ?_⟩
    · show (-(2 ^ 64) : Int) < 39373 + (b2 + 1); omega
    · show (39373 + (b2 + 1) : Int) < 2 ^ 64; omega
    refine ⟨_, _, _, rfl, rfl, rfl, _, _, _, rfl, rfl, rfl, ⟨by decide, by decide⟩, (by show (0 : Int) < 40009; decide), .inr ⟨?_, ?_⟩, (by show (0 : Int) < 2147483629; decide), ?_⟩
    · have := Int.emod_nonneg ((b1 + 48271 * (b2 + 1)) * (39373 + (b2 + 1)) % 2147483647) (b := 40009) (by decide)
      show (-(2 ^ 64) : Int) < (b1 + 48271 * (b2 + 1)) * (39373 + (b2 + 1)) % 2147483647 % 40009 + 7
      omega
    · have := Int.emod_lt_of_pos ((b1 + 48271 * (b2 + 1)) * (39373 + (b2 + 1)) % 2147483647) (b := 40009) (by decide)
      show (b1 + 48271 * (b2 + 1)) * (39373 + (b2 + 1)) % 2147483647 % 40009 + 7 < (2 ^ 64 : Int)
      omega
    refine ⟨.inr ⟨by decide, by decide⟩, (by show (0 : Int) < 2147483587; decide), ⟨by decide, by decide⟩, hs0, _, rfl, hC _ _ (Int.emod_nonneg _ (by omega)) (Int.emod_lt_of_pos _ hs0) ⟨_, _, _, rfl, h0, h1, h1', by omega, ?_⟩⟩
    show b2 + 1 ≤ ((n + 1 : Nat) : Int)
    omega
theorem rd_take0 : ∀ a xs ds C, ds.length + 1 = 2 → g_take0 xs ds C → T__law_take g_none { nx := fun ρ => ∃ ys, ρ[0]? = some (some (.own a ys)) ∧ C (.val .non) ys, rt := fun c ρ => ∃ ys, ρ[0]? = some (some (.own a ys)) ∧ C c ys } (startB N__law_take a xs ds) := rd_take0g g_none
theorem rd_take : ∀ a xs ds C, ds.length + 1 = 2 → g_take 100000000000000 xs ds C → T__law_take g_take0 { nx := fun ρ => ∃ ys, ρ[0]? = some (some (.own a ys)) ∧ C (.val .non) ys, rt := fun c ρ => ∃ ys, ρ[0]? = some (some (.own a ys)) ∧ C c ys } (startB N__law_take a xs ds) := by
  rintro a xs ds C - ⟨n, size, hn, hB, rfl, hs0, hs, hC⟩
  have hB' := hB
  obtain ⟨b0, b1, b2, rfl, h0, h1, h1', h2, h2'⟩ := hB
  by_cases hbig : size ≤ 10000000
  · exact rd_take0g g_take0 a _ _ C rfl ⟨n, size, by omega, hB', rfl, hs0, hbig, fun r ys q1 q2 q3 => hC r ys q1 q2 (q3.mono (by omega))⟩
  · refine ⟨_, _, _, rfl, rfl, rfl, ifB (fun h => ?_) (fun h => ?_)⟩
    · have h := dT h
      refine ⟨_, _, _, rfl, rfl, rfl, hs0, _, _, _, rfl, rfl, rfl, ⟨hs0, by omega⟩, _, _, _, rfl, rfl, rfl, _, rfl, hC _ _ (Int.emod_nonneg _ (by omega)) (Int.emod_lt_of_pos _ hs0) ⟨_, _, _, rfl, Int.ediv_nonneg h0 (by omega), h1, h1', h2, by omega⟩⟩
    · refine ifT (decide_eq_true (by omega)) ?_
      refine ⟨_, rfl, rfl, n, 10000000, by omega, hB', rfl, by decide, by decide, fun r1 ys1 q1 q2 q3 => ?_⟩
      have e1 : 0 ≤ (size - 1) / 10000000 := Int.ediv_nonneg (by omega) (by decide)
      have e2 : (size - 1) / 10000000 < 10000000 := Int.ediv_lt_of_lt_mul (by decide) (by omega)
      refine ⟨⟨by decide, by decide⟩, _, rfl, rfl, n + 1, (size - 1) / 10000000 + 1, by omega, q3, rfl, by omega, by omega, fun r2 ys2 p1 p2 p3 => ?_⟩
      refine ⟨.inl ⟨by decide, by decide⟩, hs0, _, rfl, hC _ _ (Int.emod_nonneg _ (by omega)) (Int.emod_lt_of_pos _ hs0) p3⟩
def g__law_of : FB := fun xs ds C => ∃ n d ys, n ≤ 100000000000 ∧ Bx n xs ∧ ds = [d] ∧ (d = .lst ys ∨ d = .tup ys) ∧ 0 < ys.length ∧ ys.length ≤ 1000 ∧ ∀ y zs, y ∈ ys → Bx (n + 2) zs → C (.val y) zs
theorem mem_of_atI {α : Type} {xs : List α} {i : Int} {v : α} (h : atI xs i = some v) : v ∈ xs := by
  obtain ⟨j, _, h2, _⟩ := atI_get h
  exact List.mem_of_getElem? h2
theorem atI_below {α : Type} {xs : List α} {i : Int} (h0 : 0 ≤ i) (h1 : i < xs.length) : ∃ v, atI xs i = some v := by
  obtain ⟨j, rfl⟩ := Int.eq_ofNat_of_zero_le h0
  exact ⟨xs[j]'(by omega), atI_nat (List.getElem?_eq_getElem (by omega))⟩
theorem rd__law_of : ∀ a xs ds C, ds.length + 1 = 2 → g__law_of xs ds C → T__law_of (g_take 100000000000000) { nx := fun ρ => ∃ ys, ρ[0]? = some (some (.own a ys)) ∧ C (.val .non) ys, rt := fun c ρ => ∃ ys, ρ[0]? = some (some (.own a ys)) ∧ C c ys } (startB N__law_of a xs ds) := by
  rintro a xs ds C - ⟨n, d, ys, hn, hB, rfl, hd, hl0, hl, hC⟩
  rcases hd with rfl | rfl
  · refine ⟨xs, rfl, rfl, n, _, by omega, hB, rfl, by omega, by omega, fun r zs q1 q2 q3 => ?_⟩
    obtain ⟨v, hv⟩ := atI_below q1 q2
    exact ⟨v, hv, _, rfl, hC v zs (mem_of_atI hv) q3⟩
  · refine ⟨xs, rfl, rfl, n, _, by omega, hB, rfl, by omega, by omega, fun r zs q1 q2 q3 => ?_⟩
    obtain ⟨v, hv⟩ := atI_below q1 q2
    exact ⟨v, hv, _, rfl, hC v zs (mem_of_atI hv) q3⟩
/-- a drawn dune: any of so many posts, heights to 10 ** 9 either way -/
def g__law_dune : FB := fun xs ds C => ∃ n size, n ≤ 100000000000 ∧ Bx n xs ∧ ds = [.int size] ∧ 0 < size ∧ size ≤ 100 ∧ ∀ ns zs, ns ≠ [] → (ns.length : Int) ≤ size → (∀ x ∈ ns, -1000000000 ≤ x ∧ x ≤ 1000000000) → Bx (n + 2000) zs → C (.val (.tup (dI ns))) zs
theorem rd__law_dune : ∀ a xs ds C, ds.length + 1 = 2 → g__law_dune xs ds C → T__law_dune (g_take 100000000000000) { nx := fun ρ => ∃ ys, ρ[0]? = some (some (.own a ys)) ∧ C (.val .non) ys, rt := fun c ρ => ∃ ys, ρ[0]? = some (some (.own a ys)) ∧ C c ys } (startB N__law_dune a xs ds) := by
  rintro a xs ds C - ⟨n, size, hn, hB, rfl, hs0, hs, hC⟩
  refine ⟨_, rfl, rfl, n, size, by omega, hB, rfl, by omega, by omega, fun many ys1 q1 q2 q3 => ?_⟩
  refine ⟨by show (4 : Nat) ≤ sizeLine; decide, _, rfl, rfl, n + 2, 4, by omega, q3, rfl, by decide, by decide, fun r2 ys2 p1 p2 p3 => ?_⟩
  obtain ⟨v, hv⟩ := atI_below (xs := [D.int 2, .int 12, .int 60, .int 1000000000]) p1 p2
  refine ⟨v, hv, ?_⟩
  obtain ⟨wide, rfl, hw0, hw⟩ : ∃ wide, v = .int wide ∧ 0 < wide ∧ wide ≤ 1000000000 := by
    have := mem_of_atI hv
    simp at this
    rcases this with e | e | e | e <;> subst e <;> exact ⟨_, rfl, by decide, by decide⟩
  refine ⟨by show (0 : Nat) ≤ sizeLine; decide, fun b => ⟨by show (-(2 ^ 62) : Int) ≤ 1 + many; omega, by show (1 + many : Int) < 2 ^ 62; omega, ?_⟩⟩
  have key : ∀ (m : Nat) (P : PEnds), (∀ ρ, (∃ w ns zs, ρ = [some (.own a zs), some (.val (.int size)), some (.val (.int (1 + many))), some (.val (.int wide)), some (.own b (dI ns)), w] ∧ ns.length = m ∧ (∀ x ∈ ns, -1000000000 ≤ x ∧ x ≤ 1000000000) ∧ Bx (n + 4 + 8 * m) zs) → P.nx ρ) → m ≤ 100 →
      forW (hName 5) (pAppend 4 (pOp fIx (pLst (pCons (pC (.int 0)) (pCons (pVar 3) (pCons (pOp fSub (pFrz (pCallB 0 2 (g_take 100000000000000) (pCons (pOp fAdd (pOp fMulI (pC (.int 2)) (pVar 3)) (pC (.int 1))) pNil))) (pVar 3)) (pCons (pFrz (pCallB 0 2 (g_take 100000000000000) (pCons (pOp fAdd (pVar 3) (pC (.int 1))) pNil))) pNil))))) (pFrz (pCallB 0 2 (g_take 100000000000000) (pCons (pC (.int 4)) pNil))))) P (rangeD 0 m) [some (.own a ys2), some (.val (.int size)), some (.val (.int (1 + many))), some (.val (.int wide)), some (.own b []), none] := by
    intro m P hP hm
    refine for_inv (fun ds ρ => ∃ w ns zs, ds.length + ns.length = m ∧ ρ = [some (.own a zs), some (.val (.int size)), some (.val (.int (1 + many))), some (.val (.int wide)), some (.own b (dI ns)), w] ∧ (∀ x ∈ ns, -1000000000 ≤ x ∧ x ≤ 1000000000) ∧ Bx (n + 4 + 8 * ns.length) zs) (fun d rst ρ K hK hI => ?_) (fun ρ hI => ?_) (rangeD 0 m) _ ⟨none, [], ys2, by simp [rangeD], rfl, by simp, p3⟩
    · obtain ⟨w, ns, zs, hl, rfl, hx, hb⟩ := hI
      have hl' : rst.length + 1 + ns.length = m := hl
      refine ⟨.inl ⟨by decide, by decide⟩, _, rfl, rfl, _, _, ?_, hb, rfl, by omega, by omega, fun r3 ys3 a1 a2 a3 => ?_⟩
      · omega
      refine ⟨_, rfl, rfl, _, _, ?_, a3, rfl, by omega, by omega, fun r4 ys4 b1 b2 b3 => ?_⟩
      · omega
      refine ⟨by show (4 : Nat) ≤ sizeLine; decide, _, rfl, rfl, _, _, ?_, b3, rfl, by decide, by decide, fun r5 ys5 c1 c2 c3 => ?_⟩
      · omega
      obtain ⟨v, hv⟩ := atI_below (xs := [D.int 0, .int wide, .int (r3 - wide), .int r4]) c1 c2
      refine ⟨v, hv, dI ns, rfl, small1000 (by rw [ints_len]; omega), ?_⟩
      obtain ⟨h, rfl, hh⟩ : ∃ h, v = .int h ∧ -1000000000 ≤ h ∧ h ≤ 1000000000 := by
        have := mem_of_atI hv
        simp at this
        rcases this with e | e | e | e <;> subst e <;> exact ⟨_, rfl, by omega, by omega⟩
      refine hK _ ⟨some (.val d), ns ++ [h], ys5, by simp; omega, ?_, fun x hx' => ?_, ?_⟩
      · rw [show dI (ns ++ [h]) = dI ns ++ [.int h] from by simp]; rfl
      · rcases List.mem_append.mp hx' with hx' | hx'
        · exact hx x hx'
        · have := List.mem_singleton.mp hx'; subst this; exact hh
      · exact c3.mono (by simp; omega)
    · obtain ⟨w, ns, zs, hl, rfl, hx, hb⟩ := hI
      have hl : ns.length = m := by simpa using hl
      subst hl
      exact hP _ ⟨w, ns, zs, rfl, rfl, hx, hb⟩
  refine key (1 + many).toNat _ (fun ρ ⟨w, ns, zs, e, hl, hx, hb⟩ => ?_) (by omega)
  subst e
  have h1 : (ns.length : Int) = 1 + many := by omega
  refine ⟨zs, rfl, hC ns zs (fun e => by subst e; simp at h1; omega) (by omega) hx (hb.mono (by omega))⟩
theorem zip_gaps' : ∀ ns : List Int, List.zipWith (fun x y => D.int (iabs (x - y))) ns (ns.drop 1) = dI (gaps ns)
  | [] => rfl
  | [_] => rfl
  | x :: y :: r => by
    show D.int (iabs (x - y)) :: List.zipWith (fun x y => D.int (iabs (x - y))) (y :: r) ((y :: r).drop 1) = D.int (gap x y) :: dI (gaps (y :: r))
    rw [zip_gaps' (y :: r), show iabs (x - y) = gap x y by unfold iabs gap; split <;> split <;> omega]
theorem gaps_len : ∀ l : List Int, (gaps l).length ≤ l.length
  | [] => by simp [gaps]
  | [_] => by simp [gaps]
  | x :: y :: r => by have := gaps_len (y :: r); simp [gaps] at this ⊢; omega
def g__law_steep : FA := fun ds C => ∃ d ns, ds = [d] ∧ Sq d ns ∧ ns.length ≤ 900 ∧ C (.val (.int (steep ns)))
theorem rd__law_steep : ∀ ds C, ds.length = 1 → g__law_steep ds C → T__law_steep { nx := fun _ => C (.val .non), rt := fun c _ => C c } (startA N__law_steep ds) := by
  rintro ds C - ⟨d, ns, rfl, hd, hl, hC⟩
  have key : lcW [1, 2] (hTup 2 (hCons (hName 1) (hCons (hName 2) hNil))) pYes (pCB fAbs (pCons (pOp fSub (pVar 1) (pVar 2)) pNil)) (fun acc ρ2 => 1 ≤ sizeLine ∧ acc.length + 1 ≤ sizeLine ∧ ∃ n ms, acc ++ [D.int 0] = (n :: ms).map D.int ∧ C (.val (.int (ms.foldl max n)))) (zipD (dI ns) (dI (ns.drop 1))) [] [some (.val d), none, none] := by
    refine lcW_z2 (h := fun x y => .int (iabs (x - y))) (fun x _ y _ K hK => ⟨rfl, rfl, hK _ rfl⟩) (by omega) ⟨by decide, ?_, ?_⟩
    · rw [zip_gaps', ints_len]; have := gaps_len ns; exact sl1000 (by omega)
    · obtain ⟨n, r, e1, e2⟩ := steep_tail ns
      refine ⟨n, r, ?_, by rw [e2]; exact hC⟩
      rw [zip_gaps', ← e1]; simp
  rcases hd with rfl | rfl
  · show lcW [1, 2] _ pYes _ _ (zipD (dI ns) (cutD (dI ns) (some 1) none)) [] _
    rw [cutD_from1, drop1_ints]
    exact key
  · show lcW [1, 2] _ pYes _ _ (zipD (dI ns) (cutD (dI ns) (some 1) none)) [] _
    rw [cutD_from1, drop1_ints]
    exact key
end Pl
namespace Pl
open PySem PySem.Spec PyProof.Rows L2
theorem all_zip3 : ∀ {a b c : List Int} (p : Int → Int → Int → Bool), (∀ x y z, x ≤ y → y ≤ z → p x y z = true) → Lq a b → Lq b c → (zip3 p a b c).all id = true
  | [], [], [], _, _, _, _ => rfl
  | x :: a, y :: b, z :: c, p, h, h1, h2 => by
    rw [zip3, List.all_cons, all_zip3 p h h1.2 h2.2]
    simp [h x y z h1.1 h2.1]
  | [], [], _ :: _, _, _, _, g => g.elim
  | [], _ :: _, _, _, _, h, _ => h.elim
  | _ :: _, [], _, _, _, h, _ => h.elim
  | _ :: _, _ :: _, [], _, _, _, g => g.elim
def g_law : FA := fun ds C => ∃ ns, ds = [.scr ns] ∧ ns.length ≤ 63 ∧ C (.val (.bl true))
theorem zip_int {f : Int → Int → Int} : ∀ {a b : List Int}, List.zipWith (fun x y => D.int (f x y)) a b = dI (List.zipWith f a b)
  | [], _ => rfl
  | _ :: _, [] => rfl
  | x :: a, y :: b => by
    show D.int (f x y) :: List.zipWith (fun x y => D.int (f x y)) a b = D.int (f x y) :: dI (List.zipWith f a b)
    rw [zip_int]
theorem zip_bl {f : Int → Int → Bool} : ∀ {a b : List Int}, List.zipWith (fun x y => D.bl (f x y)) a b = (List.zipWith f a b).map D.bl
  | [], _ => rfl
  | _ :: _, [] => rfl
  | x :: a, y :: b => by
    show D.bl (f x y) :: List.zipWith (fun x y => D.bl (f x y)) a b = D.bl (f x y) :: (List.zipWith f a b).map D.bl
    rw [zip_bl]
theorem zip3_bl {f : Int → Int → Int → Bool} (a b c : List Int) : zip3 (fun x y z => D.bl (f x y z)) a b c = (zip3 f a b c).map D.bl := (zip3_map a b c).symm
theorem bne_same {p q : Prop} [Decidable p] [Decidable q] (h : p ↔ q) : (!(D.bl (decide p)).eqv (.bl (decide q))) = false := by
  have e : decide p = decide q := decide_eq_decide.mpr h
  rw [eqv_bl, e]; simp
end Pl
namespace Pl
open PySem PySem.Spec PyProof.Rows L2
/-! ### told and due -/
theorem eqv_str (z : Str) : (D.str z).eqv (.str z) = true := by
  show (z == z) = true
  simp
theorem zip_same {α : Type} {f : α → α → D} : ∀ (xs : List α), List.zipWith f xs xs = xs.map fun x => f x x
  | [] => rfl
  | x :: xs => by simp [zip_same xs]
theorem zipD_same (xs : List D) : zipD xs xs = xs.map fun x => .tup [x, x] := zip_same xs
theorem lcW_same {vs : List Nat} {g : TGp} {te : TEp} {Q : List D → Ro → Prop} {ρ : Ro} {xs : List D} (hs : ∀ x ∈ xs, ElemOk vs g te ρ (.tup [x, x]) (.bl true)) (hl : xs.length ≤ 1000) (hQ : Q (xs.map fun _ => .bl true) ρ) : lcW vs g pYes te Q (zipD xs xs) [] ρ := by
  rw [zipD_same]
  refine lcW_map (f := fun _ => .bl true) _ [] (fun d hd => ?_) (by simpa using hl) ?_
  · obtain ⟨x, hx, rfl⟩ := List.mem_map.mp hd
    exact hs x hx
  · rw [List.nil_append, List.map_map]
    exact hQ
theorem all_true {α : Type} (xs : List α) : ((xs.map fun _ => true).all id) = true := by
  induction xs with
  | nil => rfl
  | cons x xs ih => rw [List.map_cons, List.all_cons, ih]; rfl
theorem map_true {α : Type} (xs : List α) : (xs.map fun _ => D.bl true) = (xs.map fun _ => true).map D.bl := by rw [List.map_map]; rfl
theorem rd_same (n : Nat) : ∀ ds C, ds.length = 2 → gS (n + 1) ds C → T__law_same (gS n) { nx := fun _ => C (.val .non), rt := fun c _ => C c } (startA N__law_same ds) := by
  rintro ds C - ⟨d, rfl, ok, hC⟩
  cases d with
  | non =>
    have h : D.non.sh := by unfold D.sh toPy; rfl
    exact ⟨h, h, sh_bl _, sh_bl _, sh_bl _, sh_bl _, hC⟩
  | bl b =>
    refine ⟨sh_bl _, sh_bl _, ?_⟩
    exact ifT (by rw [eqv_bl]; simp) ⟨sh_bl _, sh_bl _, sh_bl _, sh_bl _, hC⟩
  | int i =>
    refine ⟨sh_int _, sh_int _, ?_⟩
    show C (.val (.bl ((D.int i).eqv (.int i))))
    rw [show (D.int i).eqv (.int i) = true by rw [eqv_int]; simp]
    exact hC
  | str z =>
    have hz : (D.str z).sh := by cases n <;> exact ok
    refine ⟨hz, hz, ?_⟩
    exact ifT (eqv_str z) ⟨sh_bl _, sh_bl _, sh_bl _, sh_bl _, hC⟩
  | scr ns => cases n <;> exact ok.elim
  | adr a => cases n <;> exact ok.elim
  | exc _ _ => cases n <;> exact ok.elim
  | lst xs =>
    cases n with
    | zero => exact ok.elim
    | succ n =>
      obtain ⟨hl, hx⟩ := ok
      refine ⟨sh_bl _, sh_bl _, sh_bl _, sh_bl _, sh_int _, sh_int _, ifT (by rw [eqv_int]; simp) ?_⟩
      refine lcW_same (fun x hx' K hK => ⟨rfl, rfl, rfl, x, rfl, hx x hx', hK _ rfl⟩) hl ⟨_, map_true xs, ?_⟩
      rw [all_true]; exact hC
  | tup xs =>
    cases n with
    | zero => exact ok.elim
    | succ n =>
      obtain ⟨hl, hx⟩ := ok
      refine ⟨sh_bl _, sh_bl _, sh_bl _, sh_bl _, sh_int _, sh_int _, ifT (by rw [eqv_int]; simp) ?_⟩
      refine lcW_same (fun x hx' K hK => ⟨rfl, rfl, rfl, x, rfl, hx x hx', hK _ rfl⟩) hl ⟨_, map_true xs, ?_⟩
      rw [all_true]; exact hC
theorem okN_up : ∀ {n : Nat} {d : D}, okN n d → okN (n + 1) d
  | _, .non, _ => trivial
  | _, .bl _, _ => trivial
  | _, .int _, _ => trivial
  | 0, .str z, h => h
  | n + 1, .str z, h => h
  | n + 1, .lst xs, h => ⟨h.1, fun x hx => okN_up (h.2 x hx)⟩
  | n + 1, .tup xs, h => ⟨h.1, fun x hx => okN_up (h.2 x hx)⟩
  | 0, .lst _, h => h.elim
  | 0, .tup _, h => h.elim
  | 0, .scr _, h => h.elim
  | n + 1, .scr _, h => h.elim
  | 0, .adr _, h => h.elim
  | n + 1, .adr _, h => h.elim
  | 0, .exc _ _, h => h.elim
  | n + 1, .exc _ _, h => h.elim
theorem okN_ints (n : Nat) {ns : List Int} (h : ns.length ≤ 1000) : okN (n + 1) (.tup (dI ns)) := ⟨by rw [ints_len]; exact h, fun x hx => by
  obtain ⟨i, _, rfl⟩ := List.mem_map.mp hx
  cases n <;> exact trivial⟩
theorem okN_intsL (n : Nat) {ns : List Int} (h : ns.length ≤ 1000) : okN (n + 1) (.lst (dI ns)) := ⟨by rw [ints_len]; exact h, fun x hx => by
  obtain ⟨i, _, rfl⟩ := List.mem_map.mp hx
  cases n <;> exact trivial⟩
/-! ### all posts, by the law's own going through -/
theorem iabs_aI (i : Int) : iabs i = aI i := rfl
theorem atI_ints' {ns : List Int} {j : Nat} (h : j < ns.length) : atI (dI ns) (j : Int) = some (.int (ns.getD j 0)) := by
  refine atI_nat ?_
  rw [List.getElem?_map, List.getElem?_eq_getElem h, List.getD_eq_getElem?_getD, List.getElem?_eq_getElem h]; rfl
def g__law_blown : FA := fun ds C => ∃ d ns cut s, ds = [d, windD cut s] ∧ Sq d ns ∧ ns ≠ [] ∧ ns.length ≤ 1000 ∧ 0 ≤ s ∧ C (.val (.tup (dI (blownL cut s ns))))
theorem rangeD_map (n : Nat) : rangeD 0 n = dI ((List.range n).map fun (i : Nat) => (i : Int)) := by
  unfold rangeD dI
  rw [List.map_map]
  apply List.map_congr_left
  intro i _
  show D.int (0 + (i : Int)) = D.int (i : Int)
  rw [Int.zero_add]
theorem mem_rng {n : Nat} {x : Int} (h : x ∈ (List.range n).map fun (i : Nat) => (i : Int)) : ∃ j : Nat, j < n ∧ x = j := by
  obtain ⟨j, hj, e⟩ := List.mem_map.mp h
  exact ⟨j, List.mem_range.mp hj, e.symm⟩
theorem minOf_cons {l : List Int} (h : l ≠ []) : ∃ n r, l = n :: r ∧ minOf l = r.foldl min n := by
  cases l with
  | nil => exact absurd rfl h
  | cons n r => exact ⟨n, r, rfl, rfl⟩
theorem maxOf_cons {l : List Int} (h : l ≠ []) : ∃ n r, l = n :: r ∧ maxOf l = r.foldl max n := by
  cases l with
  | nil => exact absurd rfl h
  | cons n r => exact ⟨n, r, rfl, rfl⟩
theorem reachF_ne {s i : Int} {l : List Int} (h : l ≠ []) : reachF s l i ≠ [] := by
  cases l with
  | nil => exact absurd rfl h
  | cons x r => simp [reachF]
/-- one turn of the law's own wind -/
theorem blown_turn {d : D} {w1 : Option Cell} {z : Str} {s i : Int} {b : Addr} {acc : List Int} {ns : List Int} (hd : Sq d ns) (hne : ns ≠ []) (hl : ns.length ≤ 1000) (hi0 : 0 ≤ i) (hi : i ≤ 1000) (ha : acc.length < 1000) {cut : Bool} (hz : z = wordS cut) {P : PEnds}
    (hP : P.nx [some (.val d), w1, some (.val (.str z)), some (.val (.int s)), some (.own b (dI (acc ++ [if cut = true then minOf (reach s ns i) else maxOf (reachF s ns i)]))), some (.val (.int i)), none]) :
    (pIfS (pTest (pOp fEq (pVar 2) (pC (.str "cut"))))
    (pAppend 4 (pCB (fBest min) (pCons (pLc (jRng1 (pCons (pLenO 0) pNil)) (hName 6) pYes (pOp fAdd (pIxO 0 (pVar 6)) (pOp fMulI (pVar 3) (pCB fAbs (pCons (pOp fSub (pVar 5) (pVar 6)) pNil)))) [6]) pNil)))
    (pAppend 4 (pCB (fBest max) (pCons (pLc (jRng1 (pCons (pLenO 0) pNil)) (hName 6) pYes (pOp fSub (pIxO 0 (pVar 6)) (pOp fMulI (pVar 3) (pCB fAbs (pCons (pOp fSub (pVar 5) (pVar 6)) pNil)))) [6]) pNil)))) P [some (.val d), w1, some (.val (.str z)), some (.val (.int s)), some (.own b (dI acc)), some (.val (.int i)), none] := by
  have hap : (dI acc).length < sizeLine := small1000 (by rw [ints_len]; omega)
  have e2 : ∀ x : Int, dI (acc ++ [x]) = dI acc ++ [.int x] := fun x => by simp
  have rngl : ((List.range ns.length).map fun (i : Nat) => (i : Int)).length ≤ 1000 := by simpa using hl
  cases cut with
  | true =>
    subst hz
    refine ⟨sh_cut, sh_cut, ifT (by decide +kernel) ?_⟩
    obtain ⟨n0, r0, e0, e1⟩ := minOf_cons (reach_ne (s := s) (i := i) hne)
    have key : lcW [6] (hName 6) pYes (pOp fAdd (pIxO 0 (pVar 6)) (pOp fMulI (pVar 3) (pCB fAbs (pCons (pOp fSub (pVar 5) (pVar 6)) pNil)))) (fun accL ρ2 => ∃ n r, accL = (n :: r).map D.int ∧ ∃ xs1, ρ2[4]? = some (some (.own b xs1)) ∧ xs1.length < sizeLine ∧ P.nx (ρ2.set 4 (some (.own b (xs1 ++ [.int (r.foldl min n)]))))) (rangeD 0 ns.length) [] [some (.val d), w1, some (.val (.str "cut")), some (.val (.int s)), some (.own b (dI acc)), some (.val (.int i)), none] := by
      rw [rangeD_map]
      refine lcW_ints (h := fun j => .int (ns.getD j.toNat 0 + s * aI (i - j))) (fun x hx K hK => ?_) rngl ⟨n0, r0, ?_, dI acc, rfl, hap, ?_⟩
      · obtain ⟨j, hj, rfl⟩ := mem_rng hx
        have b1 : (-(2 ^ 64) : Int) < iabs (i - j) := by unfold iabs; split <;> omega
        have b2 : iabs (i - j) < (2 ^ 64 : Int) := by unfold iabs; split <;> omega
        rcases hd with rfl | rfl
        · exact ⟨_, atI_ints' hj, .inr ⟨b1, b2⟩, hK _ rfl⟩
        · exact ⟨_, atI_ints' hj, .inr ⟨b1, b2⟩, hK _ rfl⟩
      · rw [← e0, List.map_map]; unfold reach; rw [List.map_map]; rfl
      · rw [← e1, ← e2]; exact hP
    have r1 : (-(2 ^ 62) : Int) ≤ ((dI ns).length : Nat) := by rw [ints_len]; omega
    have r2 : (((dI ns).length : Nat) : Int) < 2 ^ 62 := by rw [ints_len]; omega
    have r3 : ((dI ns).length : Int).toNat = ns.length := by rw [ints_len]; omega
    rcases hd with rfl | rfl
    · exact ⟨r1, r2, by rw [r3]; exact key⟩
    · exact ⟨r1, r2, by rw [r3]; exact key⟩
  | false =>
    subst hz
    refine ⟨sh_fill, sh_cut, ifF (by decide +kernel) ?_⟩
    obtain ⟨n0, r0, e0, e1⟩ := maxOf_cons (reachF_ne (s := s) (i := i) hne)
    have key : lcW [6] (hName 6) pYes (pOp fSub (pIxO 0 (pVar 6)) (pOp fMulI (pVar 3) (pCB fAbs (pCons (pOp fSub (pVar 5) (pVar 6)) pNil)))) (fun accL ρ2 => ∃ n r, accL = (n :: r).map D.int ∧ ∃ xs1, ρ2[4]? = some (some (.own b xs1)) ∧ xs1.length < sizeLine ∧ P.nx (ρ2.set 4 (some (.own b (xs1 ++ [.int (r.foldl max n)]))))) (rangeD 0 ns.length) [] [some (.val d), w1, some (.val (.str "fill")), some (.val (.int s)), some (.own b (dI acc)), some (.val (.int i)), none] := by
      rw [rangeD_map]
      refine lcW_ints (h := fun j => .int (ns.getD j.toNat 0 - s * aI (i - j))) (fun x hx K hK => ?_) rngl ⟨n0, r0, ?_, dI acc, rfl, hap, ?_⟩
      · obtain ⟨j, hj, rfl⟩ := mem_rng hx
        have b1 : (-(2 ^ 64) : Int) < iabs (i - j) := by unfold iabs; split <;> omega
        have b2 : iabs (i - j) < (2 ^ 64 : Int) := by unfold iabs; split <;> omega
        rcases hd with rfl | rfl
        · exact ⟨_, atI_ints' hj, .inr ⟨b1, b2⟩, hK _ rfl⟩
        · exact ⟨_, atI_ints' hj, .inr ⟨b1, b2⟩, hK _ rfl⟩
      · rw [← e0, List.map_map]; unfold reachF; rw [List.map_map]; rfl
      · rw [← e1, ← e2]; exact hP
    have r1 : (-(2 ^ 62) : Int) ≤ ((dI ns).length : Nat) := by rw [ints_len]; omega
    have r2 : (((dI ns).length : Nat) : Int) < 2 ^ 62 := by rw [ints_len]; omega
    have r3 : ((dI ns).length : Int).toNat = ns.length := by rw [ints_len]; omega
    rcases hd with rfl | rfl
    · exact ⟨r1, r2, by rw [r3]; exact key⟩
    · exact ⟨r1, r2, by rw [r3]; exact key⟩
theorem rd__law_blown : ∀ ds C, ds.length = 2 → g__law_blown ds C → T__law_blown { nx := fun _ => C (.val .non), rt := fun c _ => C c } (startA N__law_blown ds) := by
  rintro ds C - ⟨d, ns, cut, s, rfl, hd, hne, hl, h0, hC⟩
  have fin : ∀ (b : Addr), forW (hName 5) (pIfS (pTest (pOp fEq (pVar 2) (pC (.str "cut"))))
    (pAppend 4 (pCB (fBest min) (pCons (pLc (jRng1 (pCons (pLenO 0) pNil)) (hName 6) pYes (pOp fAdd (pIxO 0 (pVar 6)) (pOp fMulI (pVar 3) (pCB fAbs (pCons (pOp fSub (pVar 5) (pVar 6)) pNil)))) [6]) pNil)))
    (pAppend 4 (pCB (fBest max) (pCons (pLc (jRng1 (pCons (pLenO 0) pNil)) (hName 6) pYes (pOp fSub (pIxO 0 (pVar 6)) (pOp fMulI (pVar 3) (pCB fAbs (pCons (pOp fSub (pVar 5) (pVar 6)) pNil)))) [6]) pNil))))
      { nx := fun ρ => (pRet (pVal (pCB fTup (pCons (pVar 4) pNil)))) { nx := fun _ => C (.val .non), rt := fun c _ => C c } ρ, rt := fun c _ => C c } (rangeD 0 ns.length) [some (.val d), some (.val (windD cut s)), some (.val (.str (wordS cut))), some (.val (.int s)), some (.own b []), none, none] := by
    intro b
    rw [rangeD_map]
    refine for_inv (fun ds ρ => ∃ (k : Nat) (w : Option Cell), k ≤ ns.length ∧ ds = dI (((List.range ns.length).drop k).map fun (i : Nat) => (i : Int)) ∧ ρ = [some (.val d), some (.val (windD cut s)), some (.val (.str (wordS cut))), some (.val (.int s)), some (.own b (dI ((blownL cut s ns).take k))), w, none]) (fun x rst ρ K hK hI => ?_) (fun ρ hI => ?_) _ _ ⟨0, none, by omega, rfl, rfl⟩
    · obtain ⟨k, w, hk, e1, rfl⟩ := hI
      have hk' : k < ns.length := by
        rcases Nat.lt_or_ge k ns.length with q | q
        · exact q
        · rw [List.drop_eq_nil_of_le (by simpa using q)] at e1; cases e1
      rw [List.drop_eq_getElem_cons (by simpa using hk'), List.getElem_range] at e1
      cases e1
      have hb : blownL cut s ns = if cut = true then cutAll s ns else fillAll s ns := by
        cases cut with
        | true => exact cutTo_all h0 ns
        | false => exact fillTo_all h0 ns
      have hbl : (blownL cut s ns).length = ns.length := by
        rw [hb]; cases cut with
        | true => exact cutAll_len s ns
        | false => exact fillAll_len s ns
      refine blown_turn (i := (k : Int)) (s := s) (acc := (blownL cut s ns).take k) hd hne hl (by omega) (by omega) (by rw [List.length_take]; omega) rfl ?_
      refine hK _ ⟨k + 1, some (.val (.int k)), by omega, rfl, ?_⟩
      have e : (blownL cut s ns).take (k + 1) = (blownL cut s ns).take k ++ [if cut = true then minOf (reach s ns k) else maxOf (reachF s ns k)] := by
        rw [List.take_succ, hb]
        congr 1
        cases cut with
        | true => show ((cutAll s ns)[k]?).toList = _; unfold cutAll; rw [List.getElem?_map, List.getElem?_range hk']; rfl
        | false => show ((fillAll s ns)[k]?).toList = _; unfold fillAll; rw [List.getElem?_map, List.getElem?_range hk']; rfl
      rw [e]
    · obtain ⟨k, w, hk, e1, rfl⟩ := hI
      have hk' : ns.length ≤ k := by
        rcases Nat.lt_or_ge k ns.length with q | q
        · rw [List.drop_eq_getElem_cons (by simpa using q)] at e1; cases e1
        · exact q
      have hbl : (blownL cut s ns).length = ns.length := by
        cases cut with
        | true => exact cutTo_len s ns
        | false => exact fillTo_len s ns
      rw [List.take_of_length_le (by omega)]
      exact hC
  have hz : (0 : Nat) ≤ sizeLine := Nat.zero_le _
  have r1 : (-(2 ^ 62) : Int) ≤ (ns.length : Int) := by omega
  have r2 : (ns.length : Int) < 2 ^ 62 := by omega
  rcases hd with rfl | rfl
  · refine ⟨rfl, rfl, hz, fun b => ⟨?_, ?_, ?_⟩⟩
    · show (-(2 ^ 62) : Int) ≤ ((dI ns).length : Nat); rw [ints_len]; exact r1
    · show (((dI ns).length : Nat) : Int) < 2 ^ 62; rw [ints_len]; exact r2
    · rw [show ((dI ns).length : Int).toNat = ns.length by rw [ints_len]; omega]; exact fin b
  · refine ⟨rfl, rfl, hz, fun b => ⟨?_, ?_, ?_⟩⟩
    · show (-(2 ^ 62) : Int) ≤ ((dI ns).length : Nat); rw [ints_len]; exact r1
    · show (((dI ns).length : Nat) : Int) < 2 ^ 62; rw [ints_len]; exact r2
    · rw [show ((dI ns).length : Int).toNat = ns.length by rw [ints_len]; omega]; exact fin b
end Pl
namespace Pl
open PySem PySem.Spec PyProof.Rows L2
/-! ### almanacs -/
abbrev Wd := Bool × Int
def windsD (ws : List Wd) : List D := ws.map fun w => windD w.1 w.2
def tD (l : List Int) : D := .tup (dI l)
def blW (l : List Int) (w : Wd) : List Int := blownL w.1 w.2 l
def daysL (l : List Int) : List Wd → List (List Int)
  | [] => [l]
  | w :: ws => l :: daysL (blW l w) ws
def behindL (l : List Int) (ws : List Wd) : List Int := ws.foldl blW l
/-- an almanac as data: a list, or a tuple for it -/
def Am (d : D) (ws : List Wd) : Prop := d = .lst (windsD ws) ∨ d = .tup (windsD ws)
theorem blW_len (l : List Int) (w : Wd) : (blW l w).length = l.length := by
  obtain ⟨c, s⟩ := w
  cases c with
  | true => exact cutTo_len s l
  | false => exact fillTo_len s l
theorem blW_ne {l : List Int} (h : l ≠ []) (w : Wd) : blW l w ≠ [] := ne_len (blW_len l w) h
theorem behindL_len : ∀ (ws : List Wd) (l : List Int), (behindL l ws).length = l.length
  | [], _ => rfl
  | w :: ws, l => by
    show (behindL (blW l w) ws).length = l.length
    rw [behindL_len ws, blW_len]
theorem daysL_len : ∀ (ws : List Wd) (l : List Int), (daysL l ws).length = ws.length + 1
  | [], _ => rfl
  | w :: ws, l => by simp [daysL, daysL_len ws]
theorem daysL_last : ∀ (ws : List Wd) (l : List Int), ∃ r, daysL l ws = r ++ [behindL l ws]
  | [], l => ⟨[], rfl⟩
  | w :: ws, l => by
    obtain ⟨r, e⟩ := daysL_last ws (blW l w)
    exact ⟨l :: r, by show l :: daysL (blW l w) ws = _; rw [e]; rfl⟩
theorem windsD_len (ws : List Wd) : (windsD ws).length = ws.length := by simp [windsD]
def g_raised : FA := fun ds C => ∃ d ns b, ds = [d, .int b] ∧ Sq d ns ∧ ns.length ≤ 1000 ∧ C (.val (.tup (dI (ns.map fun x => x + b))))
theorem rd_raised : ∀ ds C, ds.length = 2 → g_raised ds C → T_raised { nx := fun _ => C (.val .non), rt := fun c _ => C c } (startA N_raised ds) := by
  rintro ds C - ⟨d, ns, b, rfl, hd, hl, hC⟩
  have key : lcW [2] (hName 2) pYes (pOp fAdd (pVar 2) (pVar 1)) (fun acc ρ2 => C (.val (.tup acc))) (dI ns) [] [some (.val d), some (.val (.int b)), none] := by
    refine lcW_ints (h := fun x => .int (x + b)) (fun x _ K hK => hK _ rfl) hl ?_
    unfold dI at hC
    rw [List.map_map] at hC
    exact hC
  rcases hd with rfl | rfl <;> exact key
def g_days : FA := fun ds C => ∃ d ns a ws, ds = [d, a] ∧ Sq d ns ∧ Am a ws ∧ ns ≠ [] ∧ ns.length ≤ 1000 ∧ ws.length ≤ 900 ∧ ∀ p, C (.own p ((daysL ns ws).map tD))
theorem rd_days : ∀ ds C, ds.length = 2 → g_days ds C → T_days g_blown { nx := fun _ => C (.val .non), rt := fun c _ => C c } (startA N_days ds) := by
  rintro ds C - ⟨d, ns, am, ws, rfl, hd, ha, hne, hl, hw, hC⟩
  have key : ∀ (b : Addr), forW (hName 3) (pAppend 2 (pFrz (pCallA 2 g_blown (pCons (pIxO 2 (pUn fNeg (pC (.int 1)))) (pCons (pVar 3) pNil))))) { nx := fun ρ => pRet (pMove 2) { nx := fun _ => C (.val .non), rt := fun c _ => C c } ρ, rt := fun c _ => C c } (windsD ws) [some (.val d), some (.val am), some (.own b [tD ns]), none] := by
    intro b
    refine for_inv (fun ds ρ => ∃ (done : List (List Int)) (cur : List Int) (rest : List Wd) (w : Option Cell), ds = windsD rest ∧ ρ = [some (.val d), some (.val am), some (.own b ((done ++ [cur]).map tD)), w] ∧ daysL ns ws = done ++ daysL cur rest ∧ cur ≠ [] ∧ cur.length = ns.length ∧ done.length + rest.length = ws.length) (fun x rst ρ K hK hI => ?_) (fun ρ hI => ?_) _ _ ⟨[], ns, ws, none, rfl, rfl, rfl, hne, rfl, by simp⟩
    · obtain ⟨done, cur, rest, w, e1, rfl, e3, hc, hcl, hlen⟩ := hI
      cases rest with
      | nil => cases e1
      | cons v rest =>
        cases e1
        have hlen' : done.length + (rest.length + 1) = ws.length := hlen
        have em : (done ++ [cur]).map tD = done.map tD ++ [tD cur] := by simp
        refine ⟨(done ++ [cur]).map tD, -1, tD cur, rfl, rfl, ?_, rfl, _, cur, v.1, v.2, rfl, .inl rfl, hc, by omega, (done ++ [cur]).map tD, rfl, small1000 (by simp; omega), hK _ ⟨done ++ [cur], blW cur v, rest, some (.val (windD v.1 v.2)), rfl, ?_, ?_, blW_ne hc v, by rw [blW_len]; exact hcl, by simp; omega⟩⟩
        · rw [em]; exact atI_last _ _
        · rw [show (done ++ [cur] ++ [blW cur v]).map tD = (done ++ [cur]).map tD ++ [tD (blW cur v)] by simp]; rfl
        · rw [e3]; simp [daysL]
    · obtain ⟨done, cur, rest, w, e1, rfl, e3, hc, hcl, hlen⟩ := hI
      cases rest with
      | cons v rest => cases e1
      | nil =>
        have : daysL ns ws = done ++ [cur] := e3
        show C (.own b ((done ++ [cur]).map tD))
        rw [← this]; exact hC b
  have hz : (1 : Nat) ≤ sizeLine := by decide
  rcases hd with rfl | rfl <;> rcases ha with rfl | rfl <;> exact ⟨hz, fun b => key b⟩
def g_behind : FA := fun ds C => ∃ d ns a ws, ds = [d, a] ∧ Sq d ns ∧ Am a ws ∧ ns ≠ [] ∧ ns.length ≤ 1000 ∧ ws.length ≤ 900 ∧ C (.val (tD (behindL ns ws)))
theorem rd_behind : ∀ ds C, ds.length = 2 → g_behind ds C → T_behind g_days { nx := fun _ => C (.val .non), rt := fun c _ => C c } (startA N_behind ds) := by
  rintro ds C - ⟨d, ns, am, ws, rfl, hd, ha, hne, hl, hw, hC⟩
  refine ⟨rfl, d, ns, am, ws, rfl, hd, ha, hne, hl, hw, fun p => ?_⟩
  obtain ⟨r, e⟩ := daysL_last ws ns
  refine ⟨tD (behindL ns ws), ?_, hC⟩
  rw [e, List.map_append]
  exact atI_last _ _
/-! ### draws -/
def g__law_slope : FB := fun xs ds C => ∃ n, n ≤ 100000000000 ∧ Bx n xs ∧ ds = [] ∧ ∀ s zs, 0 ≤ s → s < 1000000000 → Bx (n + 4) zs → C (.val (.int s)) zs
theorem rd__law_slope : ∀ a xs ds C, ds.length + 1 = 1 → g__law_slope xs ds C → T__law_slope (g_take 100000000000000) { nx := fun ρ => ∃ ys, ρ[0]? = some (some (.own a ys)) ∧ C (.val .non) ys, rt := fun c ρ => ∃ ys, ρ[0]? = some (some (.own a ys)) ∧ C c ys } (startB N__law_slope a xs ds) := by
  rintro a xs ds C - ⟨n, hn, hB, rfl, hC⟩
  refine ⟨by show (4 : Nat) ≤ sizeLine; decide, xs, rfl, rfl, n, 4, by omega, hB, rfl, by decide, by decide, fun r ys q1 q2 q3 => ?_⟩
  obtain ⟨v, hv⟩ := atI_below (xs := [D.int 4, .int 9, .int 40, .int 1000000000]) q1 q2
  refine ⟨v, hv, ?_⟩
  obtain ⟨wide, rfl, hw0, hw⟩ : ∃ wide, v = .int wide ∧ 0 < wide ∧ wide ≤ 1000000000 := by
    have := mem_of_atI hv
    simp at this
    rcases this with e | e | e | e <;> subst e <;> exact ⟨_, rfl, by decide, by decide⟩
  exact ⟨ys, rfl, rfl, n + 2, wide, by omega, q3, rfl, hw0, by omega, fun s zs a1 a2 a3 => ⟨zs, rfl, hC s zs a1 (by omega) a3⟩⟩
/-! ### the law's own almanac -/
def g__law_behind : FA := fun ds C => ∃ d ns a ws, ds = [d, a] ∧ Sq d ns ∧ Am a ws ∧ ns ≠ [] ∧ ns.length ≤ 1000 ∧ (∀ w ∈ ws, 0 ≤ w.2) ∧ C (.val (tD (behindL ns ws)))
theorem rd__law_behind : ∀ ds C, ds.length = 2 → g__law_behind ds C → T__law_behind g__law_blown { nx := fun _ => C (.val .non), rt := fun c _ => C c } (startA N__law_behind ds) := by
  rintro ds C - ⟨d, ns, am, ws, rfl, hd, ha, hne, hl, hw, hC⟩
  have key : forW (hName 2) (pSet 0 (pCallA 2 g__law_blown (pCons (pVar 0) (pCons (pVar 2) pNil)))) { nx := fun ρ => (pRet (pVal (pCB fTup (pCons (pVar 0) pNil)))) { nx := fun _ => C (.val .non), rt := fun c _ => C c } ρ, rt := fun c _ => C c } (windsD ws) [some (.val d), some (.val am), none] := by
    refine for_inv (fun ds ρ => ∃ (x : D) (cur : List Int) (rest : List Wd) (w : Option Cell), ds = windsD rest ∧ ρ = [some (.val x), some (.val am), w] ∧ Sq x cur ∧ behindL ns ws = behindL cur rest ∧ cur ≠ [] ∧ cur.length = ns.length ∧ (∀ w ∈ rest, 0 ≤ w.2)) (fun x rst ρ K hK hI => ?_) (fun ρ hI => ?_) _ _ ⟨d, ns, ws, none, rfl, rfl, hd, rfl, hne, rfl, hw⟩
    · obtain ⟨x, cur, rest, w, e1, rfl, hx, e3, hc, hcl, hs⟩ := hI
      cases rest with
      | nil => cases e1
      | cons v rest =>
        cases e1
        exact ⟨rfl, x, cur, v.1, v.2, rfl, hx, hc, by omega, hs v (by simp), hK _ ⟨_, blW cur v, rest, _, rfl, rfl, .inl rfl, e3, blW_ne hc v, by rw [blW_len]; exact hcl, fun w hw' => hs w (by simp [hw'])⟩⟩
    · obtain ⟨x, cur, rest, w, e1, rfl, hx, e3, hc, hcl, hs⟩ := hI
      cases rest with
      | cons v rest => cases e1
      | nil =>
        have e3 : behindL ns ws = cur := e3
        rw [e3] at hC
        rcases hx with rfl | rfl <;> exact hC
  rcases ha with rfl | rfl <;> exact key
end Pl
namespace Pl
open PySem PySem.Spec PyProof.Rows L2
/-! ### words for laws -/
abbrev vI (i : Int) : Option Cell := some (.val (.int i))
abbrev vT (l : List Int) : Option Cell := some (.val (.tup (dI l)))
abbrev vS (c : Bool) : Option Cell := some (.val (.str (wordS c)))
theorem okN_tD (m : Nat) {l : List Int} (h : l.length ≤ 1000) : okN (m + 1) (tD l) := okN_ints m h
theorem okN_two {m : Nat} {d e : D} (h1 : okN m d) (h2 : okN m e) : okN (m + 1) (.lst [d, e]) := ⟨by show (2 : Nat) ≤ 1000; decide, fun x hx => by
  rcases List.mem_cons.mp hx with q | q
  · rw [q]; exact h1
  · rw [List.mem_singleton.mp q]; exact h2⟩
theorem map_ne {l : List Int} {f : Int → Int} (h : l ≠ []) : l.map f ≠ [] := by simpa using h
theorem blown_twice {c : Bool} {s t : Int} (hs : 0 ≤ s) (ht : 0 ≤ t) (l : List Int) : blownL c t (blownL c s l) = blownL c (min s t) l := by
  cases c with
  | true => exact cutTo_twice hs ht l
  | false => exact fillTo_twice hs ht l
theorem blown_shift {c : Bool} {s : Int} (hs : 0 ≤ s) (d : Int) (l : List Int) : blownL c s (l.map fun x => x + d) = (blownL c s l).map fun x => x + d := by
  cases c with
  | true => exact cutTo_shift hs d l
  | false => exact fillTo_shift hs d l
theorem blown_reverse {c : Bool} {s : Int} (hs : 0 ≤ s) (l : List Int) : blownL c s l.reverse = (blownL c s l).reverse := by
  cases c with
  | true => exact cutTo_reverse hs l
  | false => exact fillTo_reverse hs l
theorem blown_neg {c : Bool} {s : Int} (l : List Int) : blownL (!c) s (l.map fun x => -x) = (blownL c s l).map fun x => -x := by
  cases c with
  | true => exact fillTo_neg s l
  | false => exact cutTo_neg s l
theorem blown_mono {c : Bool} {s : Int} (hs : 0 ≤ s) {a b : List Int} (h : Lq a b) : Lq (blownL c s a) (blownL c s b) := by
  cases c with
  | true => exact cutTo_mono hs h
  | false => exact fillTo_mono hs h
theorem blown_gentle {c : Bool} {s : Int} (hs : 0 ≤ s) (l : List Int) : Gentle s (blownL c s l) := by
  cases c with
  | true => exact cutTo_gentle hs l
  | false => exact fillTo_gentle hs l
theorem blown_idle {c : Bool} {s : Int} (hs : 0 ≤ s) {l : List Int} : blownL c s l = l ↔ Gentle s l := by
  cases c with
  | true => exact cutTo_idle hs
  | false => exact fillTo_idle hs
theorem blownL_len (c : Bool) (s : Int) (l : List Int) : (blownL c s l).length = l.length := blW_len l (c, s)
theorem steep_nonneg (l : List Int) : 0 ≤ steep l := (foldl_max_le (m := steep l) (a := 0) (l := gaps l)).mp (Int.le_refl _) |>.1
theorem later_le_ahead {c f : Int} (hc : 0 ≤ c) (hf : 0 ≤ f) (l : List Int) : Lq (fillTo f (cutTo c l)) (cutTo c (fillTo f l)) := by
  refine cutTo_max ?_ (fillTo_mono hf (cutTo_le c l))
  rcases Int.le_total f c with h | h
  · exact (fillTo_gentle hf _).mono h
  · rw [(fillTo_idle hf).mpr ((cutTo_gentle hc l).mono h)]
    exact cutTo_gentle hc l
theorem atI_two {α : Type} {x y : α} : atI [x, y] 0 = some x ∧ atI [x, y] 1 = some y := ⟨rfl, rfl⟩
end Pl
namespace Pl
open PySem PySem.Spec PyProof.Rows L2
variable [TJ]
/-! ### in, of a list -/
section
variable {X : Cx}
def fIn : F2 := fun x y Q => match y with
  | .lst ys => x.sh ∧ (D.lst ys).sh ∧ Q (.bl (ys.any fun z => z.eqv x))
  | _ => False
def fNotIn : F2 := fun x y Q => match y with
  | .lst ys => x.sh ∧ (D.lst ys).sh ∧ Q (.bl (!ys.any fun z => z.eqv x))
  | _ => False
theorem any_toPys (x : D) : ∀ ys : List D, ((toPys ys).any fun z => PyData.eqv z (toPy x)) = ys.any fun z => z.eqv x
  | [] => rfl
  | y :: ys => by
    rw [toPys, List.any_cons, List.any_cons, any_toPys x ys]; rfl
theorem cm_in (hu : X.A.units + 65 < cLine) : Cmp X .In (rInD X.K) fIn := ⟨op_inD hu, fun F H x y dx dy Q R hs rx ry hf k => by
  cases ry with
  | @lst a vs ys h r =>
    obtain ⟨h1, h2, q⟩ := hf
    refine ⟨toPy dx, toPys ys, rx.dp hs h1, ?_, h1, ?_, ?_⟩
    · have := (Rep.lst h r).dp hs h2; rw [toPy] at this; exact this
    · unfold D.sh at h2; rw [toPy] at h2; exact h2
    · rw [any_toPys]; exact k _ _ _ _ (.old (.bl _)) q
  | _ => exact hf.elim⟩
theorem cm_nin (hu : X.A.units + 65 < cLine) : Cmp X .NotIn (rNotInD X.K) fNotIn := ⟨op_notInD hu, fun F H x y dx dy Q R hs rx ry hf k => by
  cases ry with
  | @lst a vs ys h r =>
    obtain ⟨h1, h2, q⟩ := hf
    refine ⟨toPy dx, toPys ys, rx.dp hs h1, ?_, h1, ?_, ?_⟩
    · have := (Rep.lst h r).dp hs h2; rw [toPy] at this; exact this
    · unfold D.sh at h2; rw [toPy] at h2; exact h2
    · rw [any_toPys]; exact k _ _ _ _ (.old (.bl _)) q
  | _ => exact hf.elim⟩
theorem hu65 {k : Nat} {A : Around} (hr : Room k A) : A.units + 65 < cLine := by have := hr.un; omega
end
section
variable {X : Cx} {ix e : Expr} {ti te : TE} {Ti Te : TEp} {pos : Pos}
def rInsertV : V → List V → Hp → VK → Prop := fun x vs H Q => ∃ (l : Addr) (xs : List V) (i : Int) (y : V), x = .ref l ∧ vs = [.int i, y] ∧ H l = some (.lst xs) ∧ xs.length < sizeLine ∧ 0 ≤ i ∧ i < 2 ^ 63 ∧
    Q .non (upd H l (.lst (xs.take i.toNat ++ [y] ++ xs.drop i.toNat)))
def pInsert (i : Nat) (Ti Te : TEp) : TSp := fun P ρ => match ρ[i]? with
  | some (some (.own a _)) => Ti ρ fun k ρ1 => Te ρ1 fun y ρ2 => ∃ xs1 n, ρ2[i]? = some (some (.own a xs1)) ∧ k = .int n ∧ xs1.length < sizeLine ∧ 0 ≤ n ∧ n < 2 ^ 63 ∧ P.nx (ρ2.set i (some (.own a (xs1.take n.toNat ++ [y] ++ xs1.drop n.toNat))))
  | _ => False
theorem pps_insert (i : Nat) {x : Str} {p ap cp : Pos} (hi : PPE X ix ti Ti) (he : PPE X e te Te) (hN : X.N[i]? = some x := by rfl) (hv : Vis X.env.scope x := by first | exact Or.inl rfl | exact Or.inr (Or.inl rfl) | exact Or.inr (Or.inr rfl)) (hd : (x == ("__debug__" : Str)) = false := by decide)
    (hcd : (x == ("__classdict__" : Str)) = false := by decide)
    (hbase : attributeBase (.Name x p) "insert" X.env (eval (.Name x p) X.env) = eval (.Name x p) X.env := by rfl)
    (hfew : ((backTo cp (starEach [ix, e] X.env)).all (fun x => !x.1) && (backToKw cp (keywordEach [] X.env)).all (fun x => x.1.isSome)
      && decide ([ix, e].length + ([] : List Keyword).length + (if ([] : List Keyword).isEmpty then 0 else 1) < 30)) = true := by rfl)
    (hline : (ap.endLine == cp.line) = true := by rfl) (hs : starEach [ix, e] X.env = (false, eval ix X.env) :: starEach [e] X.env := by rfl) (hs2 : starEach [e] X.env = (false, eval e X.env) :: starEach [] X.env := by rfl)
    (hpl : (backTo cp (starEach [e] X.env)).any (·.1) = false := by rfl)
    (hsw : swapsWith (.Call (.Attribute (.Name x p) "insert" ap) [ix, e] [] cp) none pos.line X.env = pure false := by rfl) :
    PPS X (.Expr (.Call (.Attribute (.Name x p) "insert" ap) [ix, e] [] cp) pos) (tDrop (tBM X.K "list" rInsertV (tVar i) (tCons ti (tCons te tNil)))) (pInsert i Ti Te) := ⟨ps_expr (pe_bm PySem.F.plainAttrs_list PySem.F.slot_list_insert PySem.F.type_list_insert mt_insert (pe_var hN hv hd hcd) (pa_cons hi.pe (pa_cons he.pe pa_nil hs2) hs) hbase hfew hline hs hpl) hsw, fun G F H σ ρ P D S hT r => by
  unfold pInsert at hT
  split at hT
  · rename_i a xs e0
    obtain ⟨h1, h2, h3, vs, h4, h5⟩ := S.own i a xs e0
    refine ⟨.ref a, h1, .inl ⟨rfl, _, SqL.of h4⟩, hi.snd G F H σ ρ _ _ S hT fun v dv F1 H1 ρ1 u1 S1 r1 q1 => he.snd G F1 H1 σ ρ1 _ _ S1 q1 fun y dy F2 H2 ρ2 u2 S2 r2 q2 => ?_⟩
    obtain ⟨xs1, n, e1, rfl, hz, hn0, hn, q⟩ := q2
    obtain ⟨g1, g2, g3, ws, g4, g5⟩ := S2.own i a xs1 e1
    have := r1.intInv
    subst this
    exact ⟨a, ws, n, y, rfl, rfl, g4, by rw [g5.length]; exact hz, hn0, hn, r.nx F2 _ _ _ (u1.trans u2) (S2.mut e1 (((g5.take _).append (.one r2)).append (g5.drop _))) q⟩
  · exact hT.elim⟩
end
/-! ### lists of some of the items -/
theorem lcW_filter {vs : List Nat} {g : TGp} {tt : TTp} {te : TEp} {Q : List D → Ro → Prop} {p : D → Bool} {f : D → D} {ρ : Ro} : ∀ (ds acc : List D),
    (∀ d ∈ ds, ∀ K : Bool → Ro → Prop, (∀ ρ3, restore ρ ρ3 vs = ρ → (p d = true → ∀ K2 : D → Ro → Prop, (∀ ρ4, restore ρ ρ4 vs = ρ → K2 (f d) ρ4) → te ρ3 K2) → K (p d) ρ3) → g d (wipeP ρ vs) fun ρ2 => tt ρ2 K) → acc.length + ds.length ≤ 1000 → Q (acc ++ (ds.filter p).map f) ρ → lcW vs g tt te Q ds acc ρ
  | [], acc, _, _, hQ => by
    have hQ : Q (acc ++ []) ρ := hQ
    rw [List.append_nil] at hQ
    exact hQ
  | d :: ds, acc, h, hl, hQ => by
    have hl' : acc.length + (ds.length + 1) ≤ 1000 := hl
    refine h d (by simp) _ fun ρ3 e3 ht => ?_
    cases hp : p d with
    | true =>
      refine ite_ti (ht hp _ fun ρ4 e4 => ⟨small1000 (by omega), ?_⟩)
      rw [e4]
      refine lcW_filter ds _ (fun x hx => h x (by simp [hx])) (by rw [List.length_append]; show acc.length + 1 + ds.length ≤ 1000; omega) ?_
      rw [List.filter_cons_of_pos hp, List.map_cons] at hQ
      rw [List.append_assoc]
      exact hQ
    | false =>
      refine ite_fi ?_
      rw [e3]
      refine lcW_filter ds _ (fun x hx => h x (by simp [hx])) (by omega) ?_
      rw [List.filter_cons_of_neg (by rw [hp]; simp)] at hQ
      exact hQ
end Pl
namespace Pl
open PySem PySem.Spec PyProof.Rows L2
variable [TJ]
/-! ### calls by names -/
def pick (is : List Nat) {α : Type} (zs : List α) : List α := is.filterMap (zs[·]?)
theorem Reps.pick {K : PySem.W.Frag} {F : Hp} {vs : List V} {ds : List D} (r : Reps K F vs ds) : ∀ is : List Nat, Reps K F (pick is vs) (pick is ds)
  | [] => .nil
  | i :: is => by
    have ih := Reps.pick r is
    unfold Pl.pick at ih ⊢
    cases e : ds[i]? with
    | none =>
      have : vs[i]? = none := by
        rw [List.getElem?_eq_none_iff] at e ⊢
        rw [r.length]; exact e
      rw [List.filterMap_cons_none this, List.filterMap_cons_none e]
      exact ih
    | some d =>
      obtain ⟨v, hv, rv⟩ := r.get e
      rw [List.filterMap_cons_some hv, List.filterMap_cons_some e]
      exact .cons rv ih
theorem Vals.pick {vs : List V} {us : List Value} (r : Vals vs us) : ∀ is : List Nat, Vals (pick is vs) (pick is us)
  | [] => .nil
  | i :: is => by
    have ih := Vals.pick r is
    unfold Pl.pick at ih ⊢
    cases e : vs[i]? with
    | none =>
      have : us[i]? = none := by
        rw [List.getElem?_eq_none_iff] at e ⊢
        rw [← r.length]; exact e
      rw [List.filterMap_cons_none this, List.filterMap_cons_none e]
      exact ih
    | some v =>
      obtain ⟨u, hu, ru⟩ := L2.Vals.get r e
      rw [List.filterMap_cons_some hu, List.filterMap_cons_some e]
      exact .cons ru ih
theorem fun_kbn {K : PySem.W.Frag} {x qual : Str} {st : Stmt} {f : Addr} {fd : FuncData} {ps : List Str} (F : Fun K x qual st f fd) (ks : List Str) (is : List Nat)
    (h : ∀ (kV doc pm : Value) (an : Option Addr) (cdv ct : Value) (ws : List Value), ws.length = ks.length → bindArgs (PySem.W.fnOf x qual (defArgs st) (defBody st) (defScope st) .none kV doc pm an cdv ct) ⟨[], ks.zip ws⟩ = pure (ps.zip (pick is ws))) :
    KBn K fd ps 0 ks (fun _ ws => pick is ws) (fun _ zs => pick is zs) := by
  obtain ⟨oc, od, kV, doc, pm, an, cdv, ct, osl, rfl, lk, hcd⟩ := F.ex
  refine ⟨fun s us ws _ h0 hl => ?_, fun _ rz => Vals.pick rz is⟩
  cases us with
  | cons _ _ => cases h0
  | nil => exact .of_eq (h kV doc pm an cdv ct ws hl)
section
variable {X : Cx} {k : Nat} {f : Addr} {fd : FuncData} {ps ks : List Str} {x : Str} {p pos : Pos} {kws : List Keyword} {tk : TA} {T : TAp} {n : Nat} {is : List Nat}
structure PPK (X : Cx) (kws : List Keyword) (t : TA) (T : TAp) : Prop where
  pk : PK X kws t
  snd : SndA X.K t T
theorem ppk_nil : PPK X [] tNil pNil := ⟨pk_nil, fun G F H σ ρ Q R S hT k => k _ _ F H ρ (.refl _ _) S .nil hT⟩
theorem ppk_cons {e : Expr} {te : TE} {Te : TEp} {nm : Option Str} {kpos : Pos} {t : TA} (ha : PPE X e te Te) (hr : PPK X kws t T) : PPK X (⟨nm, e, kpos⟩ :: kws) (tCons te t) (pCons Te T) := ⟨pk_cons ha.pe hr.pk, fun G F H σ ρ Q R S hT k =>
  ha.snd G F H σ ρ _ _ S hT fun v d F1 H1 ρ1 u1 S1 r1 h1 => hr.snd G F1 H1 σ ρ1 _ _ S1 h1 fun vs ds F2 H2 ρ2 u2 S2 r2 h2 => k _ _ F2 H2 ρ2 (u1.trans u2) S2 (.cons (r1.mono u2.ex) r2) h2⟩
def pCallK (n m : Nat) (g : FA) (is : List Nat) (T : TAp) : TCp := fun ρ Q => T ρ fun ds ρ1 => ds.length = m ∧ (pick is ds).length = n ∧ g (pick is ds) fun c => Q c ρ1
theorem pe_callK0 {sp : Sp} {E : XK} {CX : CXT} {g : List Value → List Value → List Value} {gV : List V → List V → List V} (F : FnOk X.prog X.w X.K X.mg X.base CX k f fd ps sp) (hr : Room k X.A) (hg : Gl X x) (hm : X.mg x = some (.ref f)) (hk : PySem.W.keepIn X.K (.ref f) = true) (hb : KBn X.K fd ps 0 ks g gV) (hx : Passes CX X E)
    (hkw : PK X kws tk) (hall : (backToKw pos (keywordEach kws X.env)).all (·.1.isSome) = true := by rfl) (hks : (backToKw pos (keywordEach kws X.env)).filterMap (·.1) = ks := by rfl)
    (hdb : (x == ("__debug__" : Str)) = false := by decide) (hpl : ((backTo pos (starEach [] X.env)).any (·.1) || (backToKw pos (keywordEach kws X.env)).any (·.1.isNone)) = false := by rfl) :
    PE X (.Call (.Name x p) [] kws pos) (tCallN 0 ks.length sp gV E tNil tk) := by
  refine ⟨fun pins s σ H Q I h => ?_⟩
  refine wpAny_Call_Name_kw (ld_glob I hg hm ?_ hdb)
  refine PySem.W.callWith_KW0 (h₀ := X.base) I.ok.mod.kin hk hall (thn (hkw.run pos pins s σ H _ I h) fun ws s2 ⟨zs, H2, I2, rz, l1, l2, q2⟩ => ⟨I2.kIn, ?_⟩) hpl
  rw [hks]
  exact run_fnN (us := []) (vs := []) F hr hb hx I2 .nil rz rfl l2 q2
theorem ppc_callK {g : FA} {m : Nat} (Fn : FnOk X.prog X.w X.K X.mg X.base CX0 k f fd ps (spA X.K n g)) (hr : Room k X.A) (hg : Gl X x) (hm : X.mg x = some (.ref f)) (hk : PySem.W.keepIn X.K (.ref f) = true) (hb : KBn X.K fd ps 0 ks (fun _ ws => pick is ws) (fun _ zs => pick is zs)) (ha : PPK X kws tk T)
    (hall : (backToKw pos (keywordEach kws X.env)).all (·.1.isSome) = true := by rfl) (hks : (backToKw pos (keywordEach kws X.env)).filterMap (·.1) = ks := by rfl)
    (hdb : (x == ("__debug__" : Str)) = false := by decide) (hpl : ((backTo pos (starEach [] X.env)).any (·.1) || (backToKw pos (keywordEach kws X.env)).any (·.1.isNone)) = false := by rfl) (hlen : ks.length = m := by rfl) :
    PPC X (.Call (.Name x p) [] kws pos) (tCallN 0 ks.length (spA X.K n g) (fun _ zs => pick is zs) (fun _ _ _ => False) tNil tk) (pCallK n m g is T) := ⟨pe_callK0 Fn hr hg hm hk hb pass0 ha.pk hall hks hdb hpl, fun G F H σ ρ Q R S hT k =>
  ha.snd G F H σ ρ _ _ S hT fun vs ds F1 H1 ρ1 u1 S1 r1 h1 => by
    refine ⟨rfl, by rw [r1.length, hlen]; exact h1.1, F1, pick is ds, _, by rw [(r1.pick is).length]; exact h1.2.1, S1.hF, r1.pick is, h1.2.2, fun v c F' H' u S' q => k v c F' H' ρ1 (u1.trans (u.less S1.hG)) (S1.afterA u S') q⟩⟩
end
/-! ### l.index(x) -/
section
variable {X : Cx} {o e : Expr} {to te : TE} {To Te : TEp}
theorem toPys_get : ∀ {ds : List D} {j : Nat}, (toPys ds)[j]? = (ds[j]?).map toPy
  | [], j => by simp [toPys]
  | d :: ds, 0 => by simp [toPys]
  | d :: ds, j + 1 => by
    rw [toPys, List.getElem?_cons_succ, List.getElem?_cons_succ]; exact toPys_get
def pIndex (To Te : TEp) : TEp := fun ρ Q => To ρ fun d ρ1 => match d with
  | .lst ys => Te ρ1 fun x ρ2 => (D.lst ys).sh ∧ x.sh ∧ ∃ (j : Nat) (z : D), ys[j]? = some z ∧ z.eqv x = true ∧ (∀ (m : Nat) (z' : D), m < j → ys[m]? = some z' → z'.eqv x = false) ∧ Q (.int j) ρ2
  | _ => False
theorem ppe_index {ap cp : Pos} (hu : X.A.units + 65 < cLine) (ho : PPE X o to To) (he : PPE X e te Te)
    (hbase : attributeBase o "index" X.env (eval o X.env) = eval o X.env := by rfl)
    (hfew : ((backTo cp (starEach [e] X.env)).all (fun x => !x.1) && (backToKw cp (keywordEach [] X.env)).all (fun x => x.1.isSome)
      && decide ([e].length + ([] : List Keyword).length + (if ([] : List Keyword).isEmpty then 0 else 1) < 30)) = true := by rfl)
    (hline : (ap.endLine == cp.line) = true := by rfl) (hs : starEach [e] X.env = (false, eval e X.env) :: starEach [] X.env := by rfl) :
    PPE X (.Call (.Attribute o "index" ap) [e] [] cp) (tBM X.K "list" (rIndexD X.K) to (tCons te tNil)) (pIndex To Te) := ⟨pe_bm PySem.F.plainAttrs_list PySem.F.slot_list_index PySem.F.type_list_index (mt_indexD hu) ho.pe (pa_cons he.pe pa_nil hs) hbase hfew hline hs rfl, fun G F H σ ρ Q R S hT k =>
  ho.snd G F H σ ρ _ _ S hT fun v d F1 H1 ρ1 u1 S1 r1 q1 => by
    cases r1 with
    | @lst a vs ys h r =>
      refine ⟨.inl ⟨rfl, _, SqL.of (S1.hF _ _ h)⟩, he.snd G F1 H1 σ ρ1 _ _ S1 q1 fun w dw F2 H2 ρ2 u2 S2 r2 q2 => ?_⟩
      obtain ⟨h1, h2, j, z, e1, e2, e3, q⟩ := q2
      have rl : Rep X.K F2 (.ref a) (.lst ys) := (Rep.lst h r).mono u2.ex
      refine ⟨a, w, toPy dw, toPys ys, j, toPy z, rfl, rfl, ?_, r2.dp S2.hF h2, ?_, h2, ?_, e2, fun m z' hm hz' => ?_, k _ _ F2 H2 ρ2 (u1.trans u2) S2 (.int _) q⟩
      · have := rl.dp S2.hF h1; rw [toPy] at this; exact this
      · unfold D.sh at h1; rw [toPy] at h1; exact h1
      · rw [toPys_get, e1]; rfl
      · rw [toPys_get] at hz'
        cases e : ys[m]? with
        | none => rw [e] at hz'; cases hz'
        | some y =>
          rw [e] at hz'
          cases hz'
          exact e3 m y hm e
    | _ => exact q1.elim⟩
end
end Pl
namespace Pl
open PySem PySem.Spec PyProof.Rows L2
/-! ### from which post a height comes -/
def row (c : Bool) (s : Int) (ns : List Int) (i : Int) : List Int := if c = true then reach s ns i else reachF s ns i
def firstIx (x : Int) : List Int → Nat
  | [] => 0
  | y :: r => if y = x then 0 else firstIx x r + 1
theorem firstIx_at {x : Int} : ∀ {l : List Int}, x ∈ l → l[firstIx x l]? = some x
  | [], h => by simp at h
  | y :: r, h => by
    unfold firstIx
    by_cases e : y = x
    · rw [if_pos e]; simp [e]
    · rw [if_neg e, List.getElem?_cons_succ]
      exact firstIx_at (by
        rcases List.mem_cons.mp h with q | q
        · exact absurd q.symm e
        · exact q)
theorem firstIx_no {x y : Int} : ∀ {l : List Int} {m : Nat}, m < firstIx x l → l[m]? = some y → y ≠ x
  | [], m, h, _ => by simp [firstIx] at h
  | z :: r, m, h, e => by
    unfold firstIx at h
    by_cases q : z = x
    · rw [if_pos q] at h; exact absurd h (Nat.not_lt_zero _)
    · rw [if_neg q] at h
      cases m with
      | zero =>
        have e' : z = y := (by simpa using e)
        rw [← e']; exact q
      | succ m =>
        have h' : m < firstIx x r := (by omega)
        have e' : r[m]? = some y := (by simpa using e)
        exact firstIx_no h' e'
theorem row_len (c : Bool) (s : Int) (ns : List Int) (i : Int) : (row c s ns i).length = ns.length := by
  unfold row; cases c <;> simp [reach, reachF]
theorem blown_in_row {c : Bool} {s : Int} (hs : 0 ≤ s) {ns : List Int} (hne : ns ≠ []) {i : Nat} {x : Int} (h : (blownL c s ns)[i]? = some x) : x ∈ row c s ns i := by
  cases c with
  | true =>
    have h : (cutTo s ns)[i]? = some x := h
    rw [cutTo_all hs] at h
    have hi : i < ns.length := by have := lt_of_get h; rwa [cutAll_len] at this
    unfold cutAll at h
    rw [List.getElem?_map, List.getElem?_range hi] at h
    have h : minOf (reach s ns i) = x := Option.some.inj h
    rw [← h]; exact minOf_mem (reach_ne hne)
  | false =>
    have h : (fillTo s ns)[i]? = some x := h
    rw [fillTo_all hs] at h
    have hi : i < ns.length := by have := lt_of_get h; rwa [fillAll_len] at this
    unfold fillAll at h
    rw [List.getElem?_map, List.getElem?_range hi] at h
    have h : maxOf (reachF s ns i) = x := Option.some.inj h
    rw [← h]
    show maxOf (reachF s ns i) ∈ reachF s ns i
    rw [reachF_neg, maxOf_neg]
    exact List.mem_map.mpr ⟨_, minOf_mem (reach_ne (map_ne hne)), rfl⟩
def srcL (c : Bool) (s : Int) (ns : List Int) (k : Nat) : List Int → List Int
  | [] => []
  | x :: r => (firstIx x (row c s ns k) : Int) :: srcL c s ns (k + 1) r
theorem srcL_len (c : Bool) (s : Int) (ns : List Int) : ∀ (l : List Int) (k : Nat), (srcL c s ns k l).length = l.length
  | [], _ => rfl
  | x :: r, k => by simp [srcL, srcL_len c s ns r]
/-- a wind handed in: a pair, or a list for it -/
def Wn (w : D) (c : Bool) (s : Int) : Prop := w = windD c s ∨ w = .lst [.str (wordS c), .int s]
def g_blownW : FA := fun ds C => ∃ d ns w c s, ds = [d, w] ∧ Sq d ns ∧ Wn w c s ∧ ns ≠ [] ∧ ns.length ≤ 1000 ∧ C (.val (tD (blownL c s ns)))
theorem rd_blownW : ∀ ds C, ds.length = 2 → g_blownW ds C → T_blown g_upside g_cut_to { nx := fun _ => C (.val .non), rt := fun c _ => C c } (startA N_blown ds) := by
  rintro ds C - ⟨d, ns, w, cut, s, rfl, hd, hw, hne, hl, hC⟩
  rcases hw with rfl | rfl
  · exact rd_blown _ C rfl ⟨d, ns, cut, s, rfl, hd, hne, hl, hC⟩
  · cases cut with
    | true =>
      refine ⟨rfl, rfl, sh_cut, sh_cut, ifT (by decide +kernel) ?_⟩
      exact ⟨rfl, d, ns, s, rfl, hd, hne, hl, hC⟩
    | false =>
      refine ⟨rfl, rfl, sh_fill, sh_cut, ifF (by decide +kernel) ?_⟩
      refine ⟨rfl, d, ns, rfl, hd, hl, rfl, _, _, s, rfl, .inl rfl, by simpa using hne, by simpa using hl, rfl, _, _, rfl, .inl rfl, by rw [cutTo_len]; simpa using hl, ?_⟩
      exact hC
def g_is_idleW : FA := fun ds C => ∃ d ns w c s, ds = [d, w] ∧ Sq d ns ∧ Wn w c s ∧ ns.length ≤ 1000 ∧ C (.val (.bl (decide (steep ns ≤ s))))
theorem rd_is_idleW : ∀ ds C, ds.length = 2 → g_is_idleW ds C → T_is_idle g_steepest { nx := fun _ => C (.val .non), rt := fun c _ => C c } (startA N_is_idle ds) := by
  rintro ds C - ⟨d, ns, w, cut, s, rfl, hd, hw, hl, hC⟩
  rcases hw with rfl | rfl <;> exact ⟨rfl, d, ns, rfl, hd, hl, .int s, rfl, hC⟩
theorem mulOk {s a b : Int} (h1 : 0 ≤ a) (h2 : a ≤ 1000) (h3 : 0 ≤ b) (h4 : b ≤ 1000) : CMul s (iabs (a - b)) := by
  refine .inr ⟨?_, ?_⟩
  · show (-(2 ^ 64) : Int) < iabs (a - b); unfold iabs; split <;> omega
  · show iabs (a - b) < (2 ^ 64 : Int); unfold iabs; split <;> omega
theorem row_get {c : Bool} {s : Int} {ns : List Int} {i : Int} {j : Nat} (hj : j < ns.length) : (row c s ns i)[j]? = some (if c = true then ns.getD j 0 + s * aI (i - j) else ns.getD j 0 - s * aI (i - j)) := by
  unfold row
  cases c with
  | true => show (reach s ns i)[j]? = _; unfold reach; rw [List.getElem?_map, List.getElem?_range hj]; rfl
  | false => show (reachF s ns i)[j]? = _; unfold reachF; rw [List.getElem?_map, List.getElem?_range hj]; rfl
theorem row_map (c : Bool) (s : Int) (ns : List Int) (i : Int) : row c s ns i = (List.range ns.length).map fun (j : Nat) => if c = true then ns.getD j 0 + s * aI (i - j) else ns.getD j 0 - s * aI (i - j) := by
  unfold row; cases c <;> rfl
/-- index of a height in a row of ints -/
theorem ix_row {l : List Int} {x : Int} (h : x ∈ l) {Q : D → Prop} (hQ : Q (.int (firstIx x l))) : (D.lst (dI l)).sh ∧ (D.int x).sh ∧ ∃ (j : Nat) (z : D), (dI l)[j]? = some z ∧ z.eqv (.int x) = true ∧ (∀ (m : Nat) (z' : D), m < j → (dI l)[m]? = some z' → z'.eqv (.int x) = false) ∧ Q (.int j) := by
  refine ⟨sh_lstI l, sh_int x, firstIx x l, .int x, ?_, by rw [eqv_int]; simp, fun m z' hm hz => ?_, hQ⟩
  · rw [List.getElem?_map, firstIx_at h]; rfl
  · rw [List.getElem?_map] at hz
    cases e : l[m]? with
    | none => rw [e] at hz; cases hz
    | some y =>
      rw [e] at hz
      cases hz
      rw [eqv_int]
      have := firstIx_no hm e
      simpa using this
def enumFrom (h : Nat → Int → D) (k : Nat) : List Int → List D
  | [] => []
  | x :: r => h k x :: enumFrom h (k + 1) r
end Pl
namespace Pl
open PySem PySem.Spec PyProof.Rows L2
variable [TJ]
/-! ### sum of a list or a tuple -/
section
variable {X : Cx}
theorem sumT_raw {prog : Program} {w : World} {A : Around} {E : Value → Shared → Prop} {s : Shared} {t : Addr} {its : List Value} {ns : List Int} {Q : Value → Shared → Prop} (hh : A.handled = none) (ht : s.heap.IsTuple t its.toArray) (hi : IntsAre its ns)
    (h : ∀ h' tk t', (∀ b o, s.heap.get? b = some o → h'.get? b = some o) → Q (.int ns.sum t') { s with heap := h', toks := tk }) : wpAny (model prog w) A (call (.builtin "sum") [.ref t]) Q E s := by
  obtain ⟨xs, e⟩ := hi.allInts.items
  have hn : numsOf (intItems xs).toList = ns := by rw [← e]; exact hi.numsOf
  rw [nums_intItems] at hn
  rw [e] at ht
  refine PySem.W.ktm_sumG hh ht fun h' tk t' hk => ?_
  have := h h' tk t' hk
  rw [preSum_eq, List.take_of_length_le (by simp), hn]; exact this
def rSumA (K : PySem.W.Frag) : List V → Hp → VK → Prop := fun vs H Q => ∃ (a : Addr) (ns : List Int), vs = [V.ref a] ∧ SqI K H a ns ∧ Q (.int ns.sum) H
theorem cr_sumA (hc : X.calm = true) : CallR X (.builtin "sum") (rSumA X.K) := by
  intro pins s σ H vs us Q I r h
  obtain ⟨a, ns, rfl, hs, q⟩ := h
  rcases hs with hs | hs
  · exact cr_sum hc pins s σ H _ us Q I r ⟨a, ns, rfl, hs, q⟩
  · rw [Vals.ref1 r]
    obtain ⟨its, rv, hl, _⟩ := I.tuple hs
    exact sumT_raw (I.ok.hd hc) (show s.heap.IsTuple a its.toArray from hl) rv.ints fun h' tk t' hk => ⟨.int _, H, I.kept hk, ⟨_, rfl⟩, q⟩
def fSumA : FC := fun ds Q => match ds with
  | [.lst xs] => ∃ ns : List Int, xs = ns.map D.int ∧ Q (.int ns.sum)
  | [.tup xs] => ∃ ns : List Int, xs = ns.map D.int ∧ Q (.int ns.sum)
  | _ => False
theorem cp_sumA {K : PySem.W.Frag} : CallP K (rSumA K) fSumA := fun F H xs ds Q R hs r hf k => by
  unfold fSumA at hf
  split at hf
  · obtain ⟨v, rfl, q1⟩ := r.inv1
    obtain ⟨a, vs, rfl, e, q2⟩ := q1.lstInv
    obtain ⟨ns, rfl, q⟩ := hf
    have := q2.ints
    subst this
    exact ⟨a, ns, rfl, .inl (SqL.of (hs _ _ e)), k _ _ _ _ (.old (.int _)) q⟩
  · obtain ⟨v, rfl, q1⟩ := r.inv1
    obtain ⟨a, vs, rfl, e, q2⟩ := q1.tupInv
    obtain ⟨ns, rfl, q⟩ := hf
    have := q2.ints
    subst this
    exact ⟨a, ns, rfl, .inr (SqT.of (hs _ _ e)), k _ _ _ _ (.old (.int _)) q⟩
  · exact hf.elim
/-! ### tuple * int -/
theorem tuple_mul1 (l : Addr) (items : Array Value) (n : Nat) (dd : Option Addr) (sl : Array (Option Value)) (u : Tok) :
    Meets (Builtin.«tuple.__mul__» ⟨[.ref l, .int 1 u], []⟩) (fun _ R s => s.heap.get? l = some { cls := .type "tuple", dict := dd, data := .seq items n, slots := sl } ∧
      R (.ok (.ret (Value.ref l))) { s with toks := s.toks }) :=
  .of_wp fun prog w A R s h => by
    obtain ⟨hp, g, d, tk, os⟩ := s
    obtain ⟨hl, h⟩ := h
    have f1 := AutoSeq1.idx_int
    have c1 : (items.isEmpty || (1 : Int) == 1) = true := by simp
    wp_walk using wpAny_loadPart' hl
    repeat (first
      | (refine wpAny_ite_false (decide_eq_false (by decide)) ?_; wp_walk using wpAny_loadPart' hl)
      | (refine wpAny_ite_true (decide_eq_true c1) ?_; wp_walk using wpAny_loadPart' hl))
    all_goals first | exact ⟨_, rfl, h⟩ | skip
def rRepT1 (K : PySem.W.Frag) : R2 := fun x y H Q => ∃ l xs, x = .ref l ∧ y = .int 1 ∧ SqT K H l xs ∧ Q (.ref l) H
theorem op_repT1 : OpR X (binaryOp .Mult) (rRepT1 X.K) := by
  intro pins s σ H x y v u Q I rx ry h
  obtain ⟨l, xs, rfl, rfl, hT, q⟩ := h
  cases rx
  obtain ⟨t, rfl⟩ := ry
  obtain ⟨its, r, ⟨⟨cls, dd, data, sl⟩, ho, hc, n, hd⟩, hs⟩ := I.tuple hT
  simp only at hc hd
  subst hc hd
  exact wpAny_binaryOp_repeat_ref (T := "tuple") (U := "int") (by decide) ⟨_, ho, rfl⟩ (fun s' => typeIs_int s' 1 t) noFill_tuple_mul F.fills_int_mul F.slot_int_rmul repeat_tuple F.slot_int_index.lookup (call_meets F.slot_int_rmul (typeIs_int s 1 t) F.entry_int_rmul (F.args_int_rmul_2 _ _) (int_rmul_tuple 1 t l its.toArray n dd sl) ⟨ho, rfl, ⟨_, ho, rfl⟩, call_meets F.slot_tuple_mul ⟨_, ho, rfl⟩ F.entry_tuple_mul (F.args_tuple_mul_2 _ _) (tuple_mul1 l its.toArray n dd sl t) ⟨ho, ⟨.ref l, H, I, rfl, q⟩⟩⟩)
variable {a b : Expr} {ta tb : TE} {Ta Tb : TEp} {pos : Pos}
def fRepT : F2 := fun x y Q => match x, y with
  | .tup xs, .int k => 1 ≤ k ∧ k ≤ 1000 ∧ xs ≠ [] ∧ xs.length ≤ 1000 ∧ Q (.tup (List.replicate k.toNat xs).flatten)
  | _, _ => False
theorem ppe_repT (ha : PPE X a ta Ta) (hb : PPE X b tb Tb) : PPE X (.BinOp a .Mult b pos) (tOp (fun x y H Q => rRepT X.K x y H Q ∨ rRepT1 X.K x y H Q) ta tb) (pOp fRepT Ta Tb) := ppe_op (OpR.or op_repT op_repT1) (fun F H x y dx dy Q R hs rx ry hf k => by
  cases rx with
  | @tup a vs xs h1 r1 =>
    cases ry with
    | int n =>
      obtain ⟨f1, f2, f3, f4, f5⟩ := hf
      by_cases e : n = 1
      · subst e
        refine .inr ⟨_, _, rfl, rfl, SqT.of (hs _ _ h1), ?_⟩
        have f5 : Q (.tup (List.replicate (1 : Int).toNat xs).flatten) := f5
        rw [show (List.replicate (1 : Int).toNat xs).flatten = xs by simp] at f5
        exact k _ _ _ _ (.old (.tup h1 r1)) f5
      · refine .inl ⟨_, _, _, rfl, rfl, SqT.of (hs _ _ h1), ?_, by omega, f2, by rw [r1.length]; exact f4, fun p hp => ?_⟩
        · intro z; subst z; cases r1; exact f3 rfl
        · have hn : F p = none := hs.free hp
          exact k _ _ _ _ (.new hp (.tup upd_same ((r1.mono (same_new hn)).rep n.toNat))) f5
    | _ => exact hf.elim
  | _ => exact hf.elim) ha hb
end
/-! ### extend -/
section
variable {X : Cx} {e : Expr} {te : TE} {Te : TEp} {pos : Pos}
def pExtend (i : Nat) (Te : TEp) : TSp := fun P ρ => match ρ[i]? with
  | some (some (.own a _)) => Te ρ fun y ρ1 => match y with
    | .lst zs => ∃ xs1, ρ1[i]? = some (some (.own a xs1)) ∧ xs1.length + zs.length ≤ sizeLine ∧ P.nx (ρ1.set i (some (.own a (xs1 ++ zs))))
    | _ => False
  | _ => False
theorem pps_extend (i : Nat) {x : Str} {p ap cp : Pos} (he : PPE X e te Te) (hN : X.N[i]? = some x := by rfl) (hv : Vis X.env.scope x := by first | exact Or.inl rfl | exact Or.inr (Or.inl rfl) | exact Or.inr (Or.inr rfl)) (hd : (x == ("__debug__" : Str)) = false := by decide)
    (hcd : (x == ("__classdict__" : Str)) = false := by decide)
    (hbase : attributeBase (.Name x p) "extend" X.env (eval (.Name x p) X.env) = eval (.Name x p) X.env := by rfl)
    (hfew : ((backTo cp (starEach [e] X.env)).all (fun x => !x.1) && (backToKw cp (keywordEach [] X.env)).all (fun x => x.1.isSome)
      && decide ([e].length + ([] : List Keyword).length + (if ([] : List Keyword).isEmpty then 0 else 1) < 30)) = true := by rfl)
    (hline : (ap.endLine == cp.line) = true := by rfl) (hs : starEach [e] X.env = (false, eval e X.env) :: starEach [] X.env := by rfl)
    (hsw : swapsWith (.Call (.Attribute (.Name x p) "extend" ap) [e] [] cp) none pos.line X.env = pure false := by rfl) :
    PPS X (.Expr (.Call (.Attribute (.Name x p) "extend" ap) [e] [] cp) pos) (tDrop (tBM X.K "list" rExtend (tVar i) (tCons te tNil))) (pExtend i Te) := ⟨ps_expr (pe_bm PySem.F.plainAttrs_list PySem.F.slot_list_extend PySem.F.type_list_extend mt_extend (pe_var hN hv hd hcd) (pa_cons he.pe pa_nil hs) hbase hfew hline hs rfl) hsw, fun G F H σ ρ P D S hT r => by
  unfold pExtend at hT
  split at hT
  · rename_i a xs e0
    obtain ⟨h1, h2, h3, vs, h4, h5⟩ := S.own i a xs e0
    refine ⟨.ref a, h1, .inl ⟨rfl, _, SqL.of h4⟩, he.snd G F H σ ρ _ _ S hT fun y dy F1 H1 ρ1 u1 S1 r1 q1 => ?_⟩
    cases r1 with
    | @lst b us zs hb rz =>
      obtain ⟨xs1, e1, hz, q⟩ := q1
      obtain ⟨g1, g2, g3, ws, g4, g5⟩ := S1.own i a xs1 e1
      exact ⟨a, b, ws, us, rfl, rfl, g4, S1.hF _ _ hb, by rw [g5.length, rz.length]; exact hz, r.nx F1 _ _ _ u1 (S1.mut e1 (g5.append rz)) q⟩
    | _ => exact q1.elim
  · exact hT.elim⟩
end
section
variable {X : Cx} {elt tg iter : Expr} {ifs : List Expr} {scope : Scope} {own : List (Str × Nat)} {pos : Pos} {wi : TI} {Ti : TAp} {Gp : TGp} {is : List Nat} {Tt : TTp} {Te : TEp} {vs : List Nat}
/-- name = [..], frozen at once -/
theorem pps_setLcV {i : Nat} {y : Str} {py spos : Pos} (hc : X.calm = true) (hN : X.N.Nodup) (hi : PPI X tg iter wi Ti) (ok : BlkOk X.N X.env.scope scope own)
    (hg : ∀ (s : Shared) (H : Hp) (C : Addr) (cl : List (Str × Addr)) (fp : List Addr), PTg (X.blk s H scope (compEnvC scope cl C X.env) fp) tg (liftG X.K Gp is) Gp is) (ht : ∀ (s : Shared) (H : Hp) (C : Addr) (cl : List (Str × Addr)) (fp : List Addr), PPTs (X.blk s H scope (compEnvC scope cl C X.env) fp) ifs (liftT X.K Tt) Tt)
    (he : ∀ (s : Shared) (H : Hp) (C : Addr) (cl : List (Str × Addr)) (fp : List Addr), PPE (X.blk s H scope (compEnvC scope cl C X.env) fp) elt (liftE X.K Te) Te)
    (hy : X.N[i]? = some y := by rfl) (hyl : X.env.scope.names.lookup y = some .local := by rfl)
    (hsw : swapsWith (.ListComp elt [⟨tg, iter, ifs, 0⟩] scope pos) (some (.Name y py)) spos.line X.env = pure true := by exact sw_true rfl rfl rfl (by decide +kernel)) (hs : ∀ x, foldedSetIterable iter X.env x = pure x := by intro _; rfl) (hsub : ∀ i ∈ is, i ∈ own.map (·.2) := by decide) :
    PPS X (.Assign [.Name y py] (.ListComp elt [⟨tg, iter, ifs, 0⟩] scope pos) spos) (tAsg (tLc wi (liftG X.K Gp is) (liftT X.K Tt) (liftE X.K Te) (own.map (·.2))) (gName i)) (pSet i (pVal (pLc Ti Gp Tt Te (own.map (·.2))))) :=
  ⟨(pps_setLcL (i := i) hc hN hi ok hg ht he hy hyl hsw hs hsub).ps, snd_set (ppc_val (ppe_lcL (pos := pos) hc hN hi ok hg ht he hs hsub)).snd⟩
end
end Pl
namespace Pl
open PySem PySem.Spec PyProof.Rows L2
variable [TJ]
/-! ### tuple(range(n)), list(range(n)) -/
section
variable {X : Cx} {a : Expr} {ta : TE} {Ta : TEp} {p q pos pos2 : Pos}
theorem reps_rg {K : PySem.W.Frag} {F : Hp} (n : Int) : Reps K F (rgV 0 n) (rangeD 0 n.toNat) := by
  have e1 : rgV 0 n = ((List.range n.toNat).map fun (i : Nat) => (0 : Int) + (i : Int)).map V.int := by
    unfold rgV; rw [Int.sub_zero, List.map_map]; rfl
  have e2 : rangeD 0 n.toNat = ((List.range n.toNat).map fun (i : Nat) => (0 : Int) + (i : Int)).map D.int := by
    unfold rangeD; rw [List.map_map]; rfl
  rw [e1, e2]
  exact Reps.ofInts _
def pTupRg (Ta : TEp) : TEp := fun ρ Q => Ta ρ fun x ρ1 => match x with
  | .int n => 0 ≤ n ∧ n ≤ 16777216 ∧ Q (.tup (rangeD 0 n.toNat)) ρ1
  | _ => False
theorem ppe_tupRg (hg : Gl X "tuple") (hm : X.mg "tuple" = none) (hgr : Gl X "range") (hmr : X.mg "range" = none) (hc : X.calm = true) (ha : PPE X a ta Ta) (na : starEach [a] X.env = (false, eval a X.env) :: starEach [] X.env := by rfl)
    (nb : starEach [.Call (.Name "range" q) [a] [] pos2] X.env = (false, eval (.Call (.Name "range" q) [a] [] pos2) X.env) :: starEach [] X.env := by rfl) :
    PPE X (.Call (.Name "tuple" p) [.Call (.Name "range" q) [a] [] pos2] [] pos) (tTupRg (tRg1 ta)) (pTupRg Ta) := ⟨pe_tupRg hc hg hm (prg_1 hgr hmr ha.pe na) nb, fun G F H σ ρ Q R S hT k =>
  ha.snd G F H σ ρ _ _ S hT fun v d F1 H1 ρ1 u1 S1 r1 q1 => by
    cases r1 with
    | int n =>
      obtain ⟨h0, h1, q⟩ := q1
      exact ⟨n, rfl, RgOk.of_le (by decide) h1 (by decide) h0, fun b hb => k _ _ _ _ ρ1 (u1.trans (S1.upNew hb)) (S1.new hb) (.tup upd_same (reps_rg n)) q⟩
    | _ => exact q1.elim⟩
end
end Pl
namespace Pl
open PySem PySem.Spec PyProof.Rows L2
/-! ### dunes by a rule -/
def tab (n : Nat) (f : Nat → Int) : List Int := (List.range n).map f
theorem tab_len (n : Nat) (f : Nat → Int) : (tab n f).length = n := by simp [tab]
theorem tab_get {n : Nat} {f : Nat → Int} {i : Nat} (h : i < n) : (tab n f).getD i 0 = f i := by
  unfold tab
  rw [List.getD_eq_getElem?_getD, List.getElem?_map, List.getElem?_range h]; rfl
theorem tab_gentle {n : Nat} {f : Nat → Int} {s : Int} (h : ∀ i, i + 1 < n → f (i + 1) ≤ f i + s ∧ f i ≤ f (i + 1) + s) : Gentle s (tab n f) := by
  refine ⟨upL_of fun i hi => ?_, upR_of fun i hi => ?_⟩ <;> rw [tab_len] at hi
  · rw [tab_get hi, tab_get (by omega)]; exact (h i hi).1
  · rw [tab_get hi, tab_get (by omega)]; exact (h i hi).2
theorem tab_lq {n : Nat} {f g : Nat → Int} (h : ∀ i, i < n → f i ≤ g i) : Lq (tab n f) (tab n g) := by
  refine lq_of_get (by rw [tab_len, tab_len]) fun i hi => ?_
  rw [tab_len] at hi
  rw [tab_get hi, tab_get hi]; exact h i hi
theorem cut_is {s : Int} (h0 : 0 ≤ s) {l t : List Int} (h1 : Gentle s t) (h2 : Lq t l) (h3 : ∀ b, Gentle s b → Lq b l → Lq b t) : cutTo s l = t :=
  (h3 _ (cutTo_gentle h0 l) (cutTo_le s l)).antisymm (cutTo_max h1 h2)
theorem fill_is {s : Int} (h0 : 0 ≤ s) {l t : List Int} (h1 : Gentle s t) (h2 : Lq l t) (h3 : ∀ b, Gentle s b → Lq l b → Lq t b) : fillTo s l = t :=
  (fillTo_min h1 h2).antisymm (h3 _ (fillTo_gentle h0 l) (fillTo_ge s l))
/-- a spike of that height amid so many posts either way -/
def spike (m : Nat) (h : Int) : List Int := tab (2 * m + 1) fun i => if i = m then h else 0
def peak (m : Nat) (h s : Int) : List Int := tab (2 * m + 1) fun i => max 0 (h - s * aI ((i : Int) - m))
theorem spike_len (m : Nat) (h : Int) : (spike m h).length = 2 * m + 1 := tab_len _ _
theorem peak_len (m : Nat) (h s : Int) : (peak m h s).length = 2 * m + 1 := tab_len _ _
theorem spike_gentle {m : Nat} {h s : Int} (h0 : 0 ≤ h) (hs : h ≤ s) : Gentle s (spike m h) := tab_gentle fun i _ => by
  constructor <;> (split <;> split <;> omega)
theorem cut_spike {m : Nat} (hm : 0 < m) {h s : Int} (h0 : 0 ≤ s) (hs : s ≤ h) : cutTo s (spike m h) = spike m s := by
  refine cut_is h0 (spike_gentle h0 (Int.le_refl s)) (tab_lq fun i _ => by split <;> omega) fun b hb hl => ?_
  have hlen : b.length = 2 * m + 1 := by rw [hl.length, spike_len]
  refine lq_of_get (by rw [hlen, spike_len]) fun i hi => ?_
  rw [hlen] at hi
  have g : ∀ j, j < 2 * m + 1 → b.getD j 0 ≤ (if j = m then h else 0) := fun j hj => by
    have q := lq_get hl j
    rw [show (spike m h).getD j 0 = (if j = m then h else 0) from tab_get hj] at q
    exact q
  show b.getD i 0 ≤ (tab (2 * m + 1) _).getD i 0
  rw [tab_get hi]
  by_cases e : i = m
  · subst e
    rw [if_pos rfl]
    have h1 := upR_get hb.2 i (by omega)
    have h2 := g (i + 1) (by omega)
    rw [if_neg (by omega)] at h2
    omega
  · rw [if_neg e]
    have h2 := g i hi
    rw [if_neg e] at h2
    exact h2
theorem mul_near {s a b : Int} (h0 : 0 ≤ s) (h1 : a ≤ b + 1) (h2 : b ≤ a + 1) : s * a ≤ s * b + s ∧ s * b ≤ s * a + s := ⟨mul_step h0 h1, mul_step h0 h2⟩
theorem fill_spike {m : Nat} {h s : Int} (h0 : 0 ≤ s) (hh : 0 ≤ h) : fillTo s (spike m h) = peak m h s := by
  refine fill_is h0 (tab_gentle fun i _ => ?_) (tab_lq fun i _ => ?_) fun b hb hl => ?_
  · have := mul_near h0 (aI_step (a := ((i + 1 : Nat) : Int) - m) (b := (i : Int) - m) (by omega) (by omega)) (aI_step (a := (i : Int) - m) (b := ((i + 1 : Nat) : Int) - m) (by omega) (by omega))
    constructor <;> omega
  · by_cases e : i = m
    · subst e
      rw [if_pos rfl, show aI ((i : Int) - i) = 0 by unfold aI; split <;> omega, Int.mul_zero]; omega
    · rw [if_neg e]; omega
  · have hlen : b.length = 2 * m + 1 := by rw [← hl.length, spike_len]
    refine lq_of_get (by rw [hlen, peak_len]) fun i hi => ?_
    rw [peak_len] at hi
    have g : ∀ j, j < 2 * m + 1 → (if j = m then h else 0) ≤ b.getD j 0 := fun j hj => by
      have q := lq_get hl j
      rw [show (spike m h).getD j 0 = (if j = m then h else 0) from tab_get hj] at q
      exact q
    show (tab (2 * m + 1) _).getD i 0 ≤ b.getD i 0
    rw [tab_get hi]
    have h1 := g m (by omega)
    rw [if_pos rfl] at h1
    have h2 := gentle_far hb m i (by omega) (by omega)
    rw [show aI ((m : Int) - i) = aI ((i : Int) - m) by unfold aI; split <;> split <;> omega] at h2
    have h3 := g i hi
    have h4 : 0 ≤ b.getD i 0 := by
      by_cases e : i = m
      · subst e; omega
      · rw [if_neg e] at h3; exact h3
    omega
theorem sum_split (f : Nat → Int) : ∀ (n : Nat) {m : Nat}, m < n → (∀ i, i < n → i ≠ m → f i = 0) → ((List.range n).map f).sum = f m
  | 0, m, h, _ => by omega
  | n + 1, m, h, hz => by
    rw [List.range_succ, List.map_append, List.sum_append]
    by_cases e : m = n
    · subst e
      have : ((List.range m).map f).sum = 0 := by
        have : (List.range m).map f = (List.range m).map fun _ => (0 : Int) := List.map_congr_left fun i hi => hz i (by have := List.mem_range.mp hi; omega) (by have := List.mem_range.mp hi; omega)
        rw [this]
        clear this h hz
        induction m with
        | zero => rfl
        | succ m ih => rw [List.range_succ, List.map_append, List.sum_append, ih]; rfl
      rw [this]; simp
    · rw [sum_split f n (by omega) fun i hi hne => hz i (by omega) hne]
      simp [hz n (by omega) (by omega)]
theorem spike_sum (m : Nat) (h : Int) : (spike m h).sum = h := by
  unfold spike tab
  rw [sum_split _ _ (m := m) (by omega) fun i _ hne => if_neg hne]; simp
def spike0 (q : Nat) : List Int := List.replicate q 0
theorem cut_step {h s : Int} (h0 : 0 ≤ s) (hs : s ≤ h) : cutTo s [0, h] = [0, s] := by
  show (cutOn s ([0, min h (0 + s)].reverse)).reverse = _
  rw [show min h (0 + s) = s by omega]
  show [min 0 (s + s), s] = _
  rw [show min 0 (s + s) = 0 by omega]
theorem fill_step {h s : Int} (h0 : 0 ≤ s) (hs : s ≤ h) : fillTo s [0, h] = [h - s, h] := by
  show ((cutOn s ([-0, min (-h) (-0 + s)].reverse)).reverse).map (fun x => -x) = _
  rw [show min (-h) (-0 + s) = -h by omega]
  show [-(min (-0) (-h + s)), - -h] = _
  rw [show -(min (-0) (-h + s)) = h - s by omega, show - -h = h by omega]
theorem spike0_len (q : Nat) : (spike0 q).length = q := by simp [spike0]
theorem spike0_gentle {s : Int} (h0 : 0 ≤ s) (q : Nat) : Gentle s (spike0 q) := gentle_replicate h0 q
theorem row_tab (c : Bool) (s : Int) (ns : List Int) (i : Int) : row c s ns i = tab ns.length fun (j : Nat) => if c = true then ns.getD j 0 + s * aI (i - j) else ns.getD j 0 - s * aI (i - j) := row_map c s ns i
theorem firstIx_tab {n i : Nat} {f : Nat → Int} {x : Int} (hi : i < n) (h1 : f i = x) (h2 : ∀ j, j < i → f j ≠ x) : firstIx x (tab n f) = i := by
  have get : ∀ j, j < n → (tab n f)[j]? = some (f j) := fun j hj => by unfold tab; rw [List.getElem?_map, List.getElem?_range hj]; rfl
  have hmem : x ∈ tab n f := List.mem_of_getElem? (by rw [get i hi, h1])
  have ha := firstIx_at hmem
  have hlt : firstIx x (tab n f) < n := by have := lt_of_get ha; rwa [tab_len] at this
  rw [get _ hlt] at ha
  have ha : f (firstIx x (tab n f)) = x := Option.some.inj ha
  rcases Nat.lt_trichotomy (firstIx x (tab n f)) i with g | g | g
  · exact absurd ha (h2 _ g)
  · exact g
  · exact absurd h1 (firstIx_no g (get i hi))
theorem getD_zero (q j : Nat) : (spike0 q).getD j 0 = 0 := by
  unfold spike0
  rw [List.getD_eq_getElem?_getD, List.getElem?_replicate]
  split <;> rfl
/-- sources of a flat dune -/
theorem src_flat (c : Bool) (s : Int) (q : Nat) (g : Nat → Int) (hg : ∀ k, k < q → (firstIx 0 (row c s (spike0 q) k) : Int) = g k) : ∀ (r k : Nat), k + r = q → srcL c s (spike0 q) k (List.replicate r 0) = ((List.range r).map fun (i : Nat) => g (k + i))
  | 0, k, _ => rfl
  | r + 1, k, h => by
    have ih := src_flat c s q g hg r (k + 1) (by omega)
    rw [List.replicate_succ, List.range_succ_eq_map, List.map_cons, List.map_map]
    show (firstIx 0 (row c s (spike0 q) k) : Int) :: srcL c s (spike0 q) (k + 1) (List.replicate r 0) = _
    rw [ih, hg k (by omega)]
    congr 1
    apply List.map_congr_left
    intro i _
    show g (k + 1 + i) = g (k + (i + 1))
    rw [show k + 1 + i = k + (i + 1) by omega]
theorem src_cut0 (q : Nat) : srcL true 0 (spike0 q) 0 (blownL true 0 (spike0 q)) = spike0 q := by
  rw [show blownL true 0 (spike0 q) = List.replicate q 0 from (cutTo_idle (by decide)).mpr (spike0_gentle (by decide) q)]
  rw [src_flat true 0 q (fun _ => 0) (fun k hk => ?_) q 0 (by omega)]
  · apply List.ext_getElem?
    intro i
    unfold spike0
    rw [List.getElem?_map, List.getElem?_replicate]
    by_cases h : i < q
    · rw [List.getElem?_range h, if_pos h]; rfl
    · rw [List.getElem?_eq_none (by simpa using h), if_neg h]; rfl
  · rw [row_tab, spike0_len, firstIx_tab (i := 0) (by omega) ?_ (fun j hj => absurd hj (Nat.not_lt_zero _))]
    · rfl
    · show (spike0 q).getD 0 0 + 0 * _ = 0
      rw [getD_zero, Int.zero_mul]; rfl
theorem src_fill1 (q : Nat) : srcL false 1 (spike0 q) 0 (blownL false 1 (spike0 q)) = (List.range q).map fun (i : Nat) => (i : Int) := by
  rw [show blownL false 1 (spike0 q) = List.replicate q 0 from (fillTo_idle (by decide)).mpr (spike0_gentle (by decide) q)]
  rw [src_flat false 1 q (fun k => (k : Int)) (fun k hk => ?_) q 0 (by omega)]
  · apply List.map_congr_left
    intro i _
    show ((0 + i : Nat) : Int) = i
    rw [Nat.zero_add]
  · rw [row_tab, spike0_len, firstIx_tab (i := k) hk ?_ (fun j hj => ?_)]
    · show (spike0 q).getD k 0 - 1 * aI ((k : Int) - k) = 0
      rw [getD_zero, show aI ((k : Int) - k) = 0 by unfold aI; split <;> omega]; rfl
    · show (spike0 q).getD j 0 - 1 * aI ((k : Int) - j) ≠ 0
      rw [getD_zero]
      unfold aI
      split <;> omega
theorem src_step {h s : Int} (h0 : 0 < s) (hs : s ≤ h) : srcL true s [0, h] 0 [0, s] = [0, 0] := by
  have e1 : firstIx 0 (row true s [0, h] ((0 : Nat) : Int)) = 0 := by
    rw [row_tab]
    refine firstIx_tab (i := 0) (by show (0 : Nat) < 2; decide) ?_ (fun j hj => absurd hj (Nat.not_lt_zero _))
    show (0 : Int) + s * aI (0 - 0) = 0
    rw [show aI (0 - 0) = 0 from rfl, Int.mul_zero]; rfl
  have e2 : firstIx s (row true s [0, h] ((1 : Nat) : Int)) = 0 := by
    rw [row_tab]
    refine firstIx_tab (i := 0) (by show (0 : Nat) < 2; decide) ?_ (fun j hj => absurd hj (Nat.not_lt_zero _))
    show (0 : Int) + s * aI (1 - 0) = s
    rw [show aI (1 - 0) = 1 from rfl, Int.mul_one]; omega
  show [(firstIx 0 (row true s [0, h] ((0 : Nat) : Int)) : Int), (firstIx s (row true s [0, h] ((1 : Nat) : Int)) : Int)] = [0, 0]
  rw [e1, e2]; rfl
end Pl
namespace Pl
open PySem PySem.Spec PyProof.Rows L2
/-! ### all rows between two -/
def rangeZ (a b : Int) : List Int := (List.range (b + 1 - a).toNat).map fun (i : Nat) => a + (i : Int)
theorem mem_rangeZ {a b v : Int} : v ∈ rangeZ a b ↔ a ≤ v ∧ v ≤ b := by
  unfold rangeZ
  rw [List.mem_map]
  constructor
  · rintro ⟨i, hi, rfl⟩; have := List.mem_range.mp hi; omega
  · rintro ⟨h1, h2⟩; exact ⟨(v - a).toNat, List.mem_range.mpr (by omega), by omega⟩
def stepB (found : List (List Int)) (ab : Int × Int) : List (List Int) := found.flatMap fun x => (rangeZ ab.1 ab.2).map fun v => x ++ [v]
def allB (ps : List (Int × Int)) : List (List Int) := ps.foldl stepB [[]]
def Btw : List (Int × Int) → List Int → Prop
  | [], [] => True
  | ab :: ps, v :: t => ab.1 ≤ v ∧ v ≤ ab.2 ∧ Btw ps t
  | _, _ => False
theorem mem_foldB : ∀ {ps : List (Int × Int)} {found : List (List Int)} {x : List Int}, x ∈ ps.foldl stepB found ↔ ∃ p ∈ found, ∃ t, x = p ++ t ∧ Btw ps t
  | [], found, x => by
    constructor
    · intro h; exact ⟨x, h, [], by simp, trivial⟩
    · rintro ⟨p, hp, t, e, h⟩
      cases t with
      | nil => rw [List.append_nil] at e; subst e; exact hp
      | cons _ _ => exact h.elim
  | ab :: ps, found, x => by
    rw [List.foldl_cons, mem_foldB]
    constructor
    · rintro ⟨q, hq, t, e, h⟩
      obtain ⟨p, hp, hq⟩ := List.mem_flatMap.mp hq
      obtain ⟨v, hv, rfl⟩ := List.mem_map.mp hq
      have := mem_rangeZ.mp hv
      exact ⟨p, hp, v :: t, by rw [e]; simp, this.1, this.2, h⟩
    · rintro ⟨p, hp, t, e, h⟩
      cases t with
      | nil => exact h.elim
      | cons v t => exact ⟨p ++ [v], List.mem_flatMap.mpr ⟨p, hp, List.mem_map.mpr ⟨v, mem_rangeZ.mpr ⟨h.1, h.2.1⟩, rfl⟩⟩, t, by rw [e]; simp, h.2.2⟩
theorem mem_allB {ps : List (Int × Int)} {x : List Int} : x ∈ allB ps ↔ Btw ps x := by
  unfold allB
  rw [mem_foldB]
  constructor
  · rintro ⟨p, hp, t, e, h⟩
    rw [List.mem_singleton.mp hp] at e
    rw [e]; exact h
  · intro h; exact ⟨[], by simp, x, by simp, h⟩
theorem btw_zip : ∀ {lo hi x : List Int}, lo.length = hi.length → (Btw (lo.zip hi) x ↔ Lq lo x ∧ Lq x hi)
  | [], [], [], _ => ⟨fun _ => ⟨trivial, trivial⟩, fun _ => trivial⟩
  | [], [], _ :: _, _ => ⟨fun h => h.elim, fun h => h.1.elim⟩
  | a :: lo, b :: hi, [], _ => ⟨fun h => h.elim, fun h => h.1.elim⟩
  | a :: lo, b :: hi, v :: x, hl => by
    have ih := btw_zip (lo := lo) (hi := hi) (x := x) (by simpa using hl)
    constructor
    · intro h; have := ih.mp h.2.2; exact ⟨⟨h.1, this.1⟩, ⟨h.2.1, this.2⟩⟩
    · intro h; exact ⟨h.1.1, h.2.1, ih.mpr ⟨h.1.2, h.2.2⟩⟩
  | [], _ :: _, _, h => by simp at h
  | _ :: _, [], _, h => by simp at h
theorem stepB_len {m : Nat} : ∀ {found : List (List Int)} {ab : Int × Int}, ab.2 + 1 - ab.1 ≤ m → (stepB found ab).length ≤ found.length * m
  | [], _, _ => by simp [stepB]
  | x :: found, ab, h => by
    have ih := stepB_len (found := found) h
    unfold stepB at ih ⊢
    rw [List.flatMap_cons, List.length_append, List.length_map, List.length_cons, Nat.add_mul]
    have : (rangeZ ab.1 ab.2).length ≤ m := by simp [rangeZ]; omega
    omega
theorem foldB_len : ∀ {ps : List (Int × Int)} {found : List (List Int)}, (∀ p ∈ ps, p.2 + 1 - p.1 ≤ 6) → (ps.foldl stepB found).length ≤ found.length * 6 ^ ps.length
  | [], _, _ => by simp
  | p :: ps, found, h => by
    rw [List.foldl_cons]
    have h1 := foldB_len (ps := ps) (found := stepB found p) (fun q hq => h q (by simp [hq]))
    have h2 := stepB_len (m := 6) (found := found) (h p (by simp))
    have h3 : (stepB found p).length * 6 ^ ps.length ≤ (found.length * 6) * 6 ^ ps.length := Nat.mul_le_mul_right _ h2
    rw [Nat.mul_assoc, ← Nat.pow_succ'] at h3
    exact Nat.le_trans h1 h3
theorem btw_len : ∀ {ps : List (Int × Int)} {x : List Int}, Btw ps x → x.length = ps.length
  | [], [], _ => rfl
  | _ :: ps, _ :: x, h => by simp [btw_len h.2.2]
  | [], _ :: _, h => h.elim
  | _ :: _, [], h => h.elim
/-! rows as data -/
theorem canLay_rows : ∀ ls : List (List Int), PyData.canLayAll0 (toPys (ls.map tD)) = true
  | [] => rfl
  | l :: ls => by
    show (PyData.canLayAll0 (toPys (dI l)) && PyData.canLayAll0 (toPys (ls.map tD))) = true
    rw [canLay_rows ls, canLay_ints]; rfl
theorem depth_rows : ∀ ls : List (List Int), PyData.depthAll (toPys (ls.map tD)) ≤ 1
  | [] => by decide
  | l :: ls => by
    show max (PyData.depthAll (toPys (dI l)) + 1) (PyData.depthAll (toPys (ls.map tD))) ≤ 1
    rw [depth_dI]; have := depth_rows ls; omega
theorem sh_rows (ls : List (List Int)) : (D.lst (ls.map tD)).sh := by
  show (PyData.canLayAll0 (toPys (ls.map tD)) && decide (PyData.depthAll (toPys (ls.map tD)) + 1 ≤ 64)) = true
  rw [canLay_rows]
  have := depth_rows ls
  simp; omega
theorem any_rows (x : List Int) : ∀ ls : List (List Int), ((ls.map tD).any fun z => z.eqv (tD x)) = decide (x ∈ ls)
  | [] => by simp
  | l :: ls => by
    rw [List.map_cons, List.any_cons, any_rows x ls]
    rw [show (tD l).eqv (tD x) = decide (l = x) from eqv_tupI l x]
    by_cases h : l = x
    · subst h; simp
    · by_cases g : x ∈ ls
      · simp [g]
      · simp [h, g, Ne.symm h]
/-! items by any rule, a size within the line -/
theorem lcW_mapS {α : Type} {vs : List Nat} {g : TGp} {te : TEp} {Q : List D → Ro → Prop} {d f : α → D} {ρ : Ro} : ∀ (xs : List α) (acc : List D), (∀ x ∈ xs, ElemOk vs g te ρ (d x) (f x)) → acc.length + xs.length ≤ sizeLine → Q (acc ++ xs.map f) ρ → lcW vs g pYes te Q (xs.map d) acc ρ
  | [], acc, _, _, hQ => by
    have hQ : Q (acc ++ []) ρ := hQ
    rw [List.append_nil] at hQ
    exact hQ
  | x :: xs, acc, h, hl, hQ => by
    have hl' : acc.length + (xs.length + 1) ≤ sizeLine := hl
    refine h x (by simp) _ fun ρ4 e => ⟨by omega, ?_⟩
    rw [e]
    refine lcW_mapS xs _ (fun y hy => h y (by simp [hy])) (by rw [List.length_append]; show acc.length + 1 + xs.length ≤ sizeLine; omega) ?_
    rw [List.append_assoc]
    exact hQ
theorem lcW_filterS {α : Type} {vs : List Nat} {g : TGp} {tt : TTp} {te : TEp} {Q : List D → Ro → Prop} {d : α → D} {p : α → Bool} {ρ : Ro} : ∀ (xs : List α) (acc : List D),
    (∀ x ∈ xs, ∀ K : Bool → Ro → Prop, (∀ ρ3, restore ρ ρ3 vs = ρ → (p x = true → ∀ K2 : D → Ro → Prop, (∀ ρ4, restore ρ ρ4 vs = ρ → K2 (d x) ρ4) → te ρ3 K2) → K (p x) ρ3) → g (d x) (wipeP ρ vs) fun ρ2 => tt ρ2 K) → acc.length + xs.length ≤ sizeLine → Q (acc ++ (xs.filter p).map d) ρ → lcW vs g tt te Q (xs.map d) acc ρ
  | [], acc, _, _, hQ => by
    have hQ : Q (acc ++ []) ρ := hQ
    rw [List.append_nil] at hQ
    exact hQ
  | x :: xs, acc, h, hl, hQ => by
    have hl' : acc.length + (xs.length + 1) ≤ sizeLine := hl
    refine h x (by simp) _ fun ρ3 e3 ht => ?_
    cases hp : p x with
    | true =>
      refine ite_ti (ht hp _ fun ρ4 e4 => ⟨by omega, ?_⟩)
      rw [e4]
      refine lcW_filterS xs _ (fun y hy => h y (by simp [hy])) (by rw [List.length_append]; show acc.length + 1 + xs.length ≤ sizeLine; omega) ?_
      rw [List.filter_cons_of_pos hp, List.map_cons] at hQ
      rw [List.append_assoc]
      exact hQ
    | false =>
      refine ite_fi ?_
      rw [e3]
      refine lcW_filterS xs _ (fun y hy => h y (by simp [hy])) (by omega) ?_
      rw [List.filter_cons_of_neg (by rw [hp]; simp)] at hQ
      exact hQ
def pairD (ab : Int × Int) : D := .tup [.int ab.1, .int ab.2]
theorem zipD_pairs : ∀ (a b : List Int), zipD (dI a) (dI b) = (a.zip b).map pairD
  | [], _ => rfl
  | _ :: _, [] => rfl
  | x :: a, y :: b => by
    show D.tup [.int x, .int y] :: zipD (dI a) (dI b) = pairD (x, y) :: (a.zip b).map pairD
    rw [zipD_pairs a b]; rfl
end Pl
namespace Pl
open PySem PySem.Spec PyProof.Rows L2
theorem mem_windsD {ws : List Wd} {d : D} (h : d ∈ windsD ws) : ∃ w ∈ ws, d = windD w.1 w.2 := by
  obtain ⟨w, hw, e⟩ := List.mem_map.mp h
  exact ⟨w, hw, e.symm⟩
theorem lcW_winds {vs : List Nat} {g : TGp} {te : TEp} {Q : List D → Ro → Prop} {h : Wd → D} {ρ : Ro} {ws : List Wd} (hs : ∀ w ∈ ws, ElemOk vs g te ρ (windD w.1 w.2) (h w)) (hl : ws.length ≤ 1000) (hQ : Q (ws.map h) ρ) : lcW vs g pYes te Q (windsD ws) [] ρ := by
  have gen : ∀ (ws : List Wd) (acc : List D), (∀ w ∈ ws, ElemOk vs g te ρ (windD w.1 w.2) (h w)) → acc.length + ws.length ≤ 1000 → Q (acc ++ ws.map h) ρ → lcW vs g pYes te Q (windsD ws) acc ρ := by
    intro ws
    induction ws with
    | nil => intro acc _ _ hQ; have hQ : Q (acc ++ []) ρ := hQ; rw [List.append_nil] at hQ; exact hQ
    | cons w ws ih =>
      intro acc hs hl hQ
      have hl' : acc.length + (ws.length + 1) ≤ 1000 := hl
      refine hs w (by simp) _ fun ρ4 e => ⟨small1000 (by omega), ?_⟩
      rw [e]
      refine ih _ (fun x hx => hs x (by simp [hx])) (by rw [List.length_append]; show acc.length + 1 + ws.length ≤ 1000; omega) ?_
      rw [List.append_assoc]
      exact hQ
  exact gen ws [] hs (by simpa using hl) hQ
def g_gentlest : FA := fun ds C => ∃ a ws, ds = [a] ∧ Am a ws ∧ ws.length ≤ 1000 ∧ C (.val (bestDD min .non (ws.map (·.2))))
theorem rd_gentlest : ∀ ds C, ds.length = 1 → g_gentlest ds C → T_gentlest { nx := fun _ => C (.val .non), rt := fun c _ => C c } (startA N_gentlest ds) := by
  rintro ds C - ⟨a, ws, rfl, ha, hl, hC⟩
  have key : lcW [1, 2] (hTup 2 (hCons (hName 1) (hCons (hName 2) hNil))) pYes (pVar 2) (fun acc ρ2 => ∃ ms, acc = dI ms ∧ C (.val (bestDD min .non ms))) (windsD ws) [] [some (.val a), none, none] := by
    refine lcW_winds (h := fun w => .int w.2) (fun w _ K hK => ⟨rfl, rfl, hK _ rfl⟩) hl ⟨ws.map (·.2), ?_, hC⟩
    unfold dI; rw [List.map_map]; rfl
  rcases ha with rfl | rfl <;> exact key
def g_can_stand : FA := fun ds C => ∃ d ns a ws, ds = [d, a] ∧ Sq d ns ∧ Am a ws ∧ ns ≠ [] ∧ ns.length ≤ 1000 ∧ ws.length ≤ 900 ∧ C (.val (.bl (decide (behindL ns ws = ns))))
theorem rd_can_stand : ∀ ds C, ds.length = 2 → g_can_stand ds C → T_can_stand g_behind { nx := fun _ => C (.val .non), rt := fun c _ => C c } (startA N_can_stand ds) := by
  rintro ds C - ⟨d, ns, am, ws, rfl, hd, ha, hne, hl, hw, hC⟩
  refine ⟨rfl, d, ns, am, ws, rfl, hd, ha, hne, hl, hw, ?_⟩
  have fin : C (.val (.bl ((tD (behindL ns ws)).eqv (.tup (dI ns))))) := by
    rw [show (tD (behindL ns ws)).eqv (.tup (dI ns)) = decide (behindL ns ws = ns) from eqv_tupI _ _]; exact hC
  rcases hd with rfl | rfl
  · exact ⟨sh_tupI _, sh_tupI _, fin⟩
  · exact ⟨sh_tupI _, sh_tupI _, fin⟩
/-- the numbers of the idle ones from n on -/
def idleL (n : Nat) (l : List Int) : List Wd → List Int
  | [] => []
  | w :: ws => if steep l ≤ w.2 then (n : Int) :: idleL (n + 1) (blW l w) ws else idleL (n + 1) (blW l w) ws
def g_idle_in : FA := fun ds C => ∃ d ns a ws, ds = [d, a] ∧ Sq d ns ∧ Am a ws ∧ ns ≠ [] ∧ ns.length ≤ 1000 ∧ ws.length ≤ 900 ∧ ∀ p, C (.own p (dI (idleL 0 ns ws)))
theorem rd_idle_in : ∀ ds C, ds.length = 2 → g_idle_in ds C → T_idle_in g_is_idle g_days { nx := fun _ => C (.val .non), rt := fun c _ => C c } (startA N_idle_in ds) := by
  rintro ds C - ⟨d, ns, am, ws, rfl, hd, ha, hne, hl, hw, hC⟩
  refine ⟨rfl, d, ns, am, ws, rfl, hd, ha, hne, hl, hw, fun p => ?_⟩
  have key : lcW [3, 4] (hTup 2 (hCons (hName 3) (hCons (hName 4) hNil))) (pTest (pFrz (pCallA 2 g_is_idle (pCons (pIxO 2 (pVar 3)) (pCons (pVar 4) pNil))))) (pVar 3) (fun acc ρ2 => ∀ a, C (.own a acc)) (enumD 0 (windsD ws)) [] [some (.val d), some (.val am), some (.own p ((daysL ns ws).map tD)), none, none] := by
    refine lcW_inv (fun ds acc ρ => ∃ (n : Nat) (cur : List Int) (rest : List Wd) (done : List (List Int)) (got : List Int), ds = enumD n (windsD rest) ∧ acc = dI got ∧ ρ = [some (.val d), some (.val am), some (.own p ((daysL ns ws).map tD)), none, none] ∧ daysL ns ws = done ++ daysL cur rest ∧ done.length = n ∧ got ++ idleL n cur rest = idleL 0 ns ws ∧ cur.length = ns.length ∧ got.length ≤ n ∧ n + rest.length = ws.length) (fun x r acc ρ K hK hI => ?_) (fun acc ρ hI => ?_) _ _ _ ⟨0, ns, ws, [], [], rfl, rfl, rfl, rfl, rfl, rfl, rfl, Nat.le_refl _, by simp⟩
    · obtain ⟨n, cur, rest, done, got, e1, rfl, rfl, e3, e4, e5, hcl, hgl, hn⟩ := hI
      cases rest with
      | nil => cases e1
      | cons v rest =>
        cases e1
        have hn' : n + (rest.length + 1) = ws.length := hn
        have hget : atI ((daysL ns ws).map tD) (n : Int) = some (tD cur) := by
          refine atI_nat ?_
          rw [e3, List.getElem?_map, List.getElem?_append_right (by omega), e4, Nat.sub_self]; rfl
        have nxt : daysL ns ws = (done ++ [cur]) ++ daysL (blW cur v) rest := by rw [e3]; simp [daysL]
        refine ⟨rfl, rfl, (daysL ns ws).map tD, n, tD cur, rfl, rfl, hget, rfl, _, cur, v.1, v.2, rfl, .inl rfl, by omega, ifB (fun h => ?_) (fun h => ?_)⟩
        · have h := dT h
          refine ⟨small1000 (by rw [ints_len]; omega), hK _ _ ⟨n + 1, blW cur v, rest, done ++ [cur], got ++ [(n : Int)], rfl, by simp, rfl, nxt, by simp; omega, ?_, by rw [blW_len]; exact hcl, by simp; omega, by omega⟩⟩
          rw [← e5]; simp [idleL, h]
        · have h := dF h
          refine hK _ _ ⟨n + 1, blW cur v, rest, done ++ [cur], got, rfl, rfl, rfl, nxt, by simp; omega, ?_, by rw [blW_len]; exact hcl, by omega, by omega⟩
          rw [← e5]; simp [idleL, h]
    · obtain ⟨n, cur, rest, done, got, e1, rfl, rfl, e3, e4, e5, hcl, hgl, hn⟩ := hI
      cases rest with
      | cons v rest => cases e1
      | nil =>
        have e5 : got = idleL 0 ns ws := by rw [← e5]; simp [idleL]
        rw [e5]; exact hC
  rcases ha with rfl | rfl <;> exact key
/-- drawn winds -/
def g__law_winds : FB := fun xs ds C => ∃ n size, n ≤ 10000000000 ∧ Bx n xs ∧ ds = [.int size] ∧ 0 ≤ size ∧ size ≤ 100 ∧ ∀ a ws zs, (ws.length : Int) ≤ size → (∀ w ∈ ws, 0 ≤ w.2 ∧ w.2 < 1000000000) → Bx (n + 1000) zs → C (.own a (windsD ws)) zs
theorem rd__law_winds : ∀ a xs ds C, ds.length + 1 = 2 → g__law_winds xs ds C → T__law_winds (g_take 100000000000000) g__law_slope { nx := fun ρ => ∃ ys, ρ[0]? = some (some (.own a ys)) ∧ C (.val .non) ys, rt := fun c ρ => ∃ ys, ρ[0]? = some (some (.own a ys)) ∧ C c ys } (startB N__law_winds a xs ds) := by
  rintro a xs ds C - ⟨n, size, hn, hB, rfl, hs0, hs, hC⟩
  refine ⟨xs, rfl, rfl, n, size + 1, by omega, hB, rfl, by omega, by omega, fun many ys q1 q2 q3 => ?_⟩
  refine ⟨by show (-(2 ^ 62) : Int) ≤ many; omega, by show many < (2 ^ 62 : Int); omega, ?_⟩
  refine lcW_inv (fun ds acc ρ => ∃ (ws : List Wd) (zs : List D), (ds.length : Int) + ws.length = many ∧ acc = windsD ws ∧ (∀ w ∈ ws, 0 ≤ w.2 ∧ w.2 < 1000000000) ∧ Bx (n + 2 + 6 * ws.length) zs ∧ ρ = [some (.own a zs), some (.val (.int size)), none]) (fun x r acc ρ K hK hI => ?_) (fun acc ρ hI => ?_) _ _ _ ⟨[], ys, by simp [rangeD]; omega, rfl, by simp, q3, rfl⟩
  · obtain ⟨ws, zs, h1, rfl, h3, h4, rfl⟩ := hI
    have h1' : ((r.length + 1 : Nat) : Int) + ws.length = many := h1
    refine ⟨by show (2 : Nat) ≤ sizeLine; decide, zs, rfl, rfl, _, 2, by omega, h4, rfl, by decide, by decide, fun b zs1 b1 b2 b3 => ?_⟩
    obtain ⟨v, hv⟩ := atI_below (xs := [D.str "cut", .str "fill"]) b1 b2
    refine ⟨v, hv, zs1, rfl, rfl, _, by omega, b3, rfl, fun s zs2 s0 s1 s3 => ⟨by show (2 : Nat) ≤ sizeLine; decide, small1000 (by rw [windsD_len]; omega), ?_⟩⟩
    obtain ⟨c, rfl⟩ : ∃ c, v = .str (wordS c) := by
      have := mem_of_atI hv
      simp at this
      rcases this with e | e
      · exact ⟨true, e⟩
      · exact ⟨false, e⟩
    refine hK _ _ ⟨ws ++ [(c, s)], zs2, by simp; omega, ?_, fun w hw => ?_, s3.mono (by simp; omega), rfl⟩
    · unfold windsD; rw [List.map_append]; rfl
    · rcases List.mem_append.mp hw with hw | hw
      · exact h3 w hw
      · rw [List.mem_singleton.mp hw]; exact ⟨s0, s1⟩
  · obtain ⟨ws, zs, h1, rfl, h3, h4, rfl⟩ := hI
    have h1 : (0 : Int) + ws.length = many := h1
    exact fun p => ⟨zs, rfl, hC p ws zs (by omega) h3 (h4.mono (by omega))⟩
end Pl
namespace Pl
open PySem PySem.Spec PyProof.Rows L2
theorem blW_keeps {l : List Int} {t : Int} {w : Wd} (hw : 0 ≤ w.2) (h : Gentle t l) : Gentle t (blW l w) := by
  rcases Int.le_total t w.2 with g | g
  · have : blW l w = l := (blown_idle (c := w.1) hw).mpr (h.mono g)
    rw [this]; exact h
  · exact (blown_gentle (c := w.1) hw l).mono g
theorem behindL_keeps {t : Int} : ∀ {ws : List Wd} {l : List Int}, (∀ w ∈ ws, 0 ≤ w.2) → Gentle t l → Gentle t (behindL l ws)
  | [], _, _, h => h
  | w :: ws, l, hw, h => behindL_keeps (ws := ws) (l := blW l w) (fun v hv => hw v (by simp [hv])) (blW_keeps (hw w (by simp)) h)
theorem behindL_gentle : ∀ {ws : List Wd} {l : List Int}, (∀ w ∈ ws, 0 ≤ w.2) → ∀ w ∈ ws, Gentle w.2 (behindL l ws)
  | [], _, _, _, h => by simp at h
  | v :: ws, l, hw, w, h => by
    have hw' : ∀ u ∈ ws, 0 ≤ u.2 := fun u hu => hw u (by simp [hu])
    rcases List.mem_cons.mp h with e | h
    · subst e
      exact behindL_keeps (ws := ws) (l := blW l w) hw' (blown_gentle (c := w.1) (hw w (by simp)) l)
    · exact behindL_gentle (ws := ws) (l := blW l v) hw' w h
theorem behindL_idle : ∀ {ws : List Wd} {l : List Int}, (∀ w ∈ ws, 0 ≤ w.2) → (∀ w ∈ ws, Gentle w.2 l) → behindL l ws = l
  | [], _, _, _ => rfl
  | w :: ws, l, hw, h => by
    have e : blW l w = l := (blown_idle (c := w.1) (hw w (by simp))).mpr (h w (by simp))
    show behindL (blW l w) ws = l
    rw [e]
    exact behindL_idle (fun v hv => hw v (by simp [hv])) fun v hv => h v (by simp [hv])
theorem behindL_append (l : List Int) (a b : List Wd) : behindL l (a ++ b) = behindL (behindL l a) b := List.foldl_append
theorem behindL_mono : ∀ {ws : List Wd} {a b : List Int}, (∀ w ∈ ws, 0 ≤ w.2) → Lq a b → Lq (behindL a ws) (behindL b ws)
  | [], _, _, _, h => h
  | w :: ws, a, b, hw, h => behindL_mono (ws := ws) (fun v hv => hw v (by simp [hv])) (blown_mono (c := w.1) (hw w (by simp)) h)
theorem behindL_ne {l : List Int} (h : l ≠ []) (ws : List Wd) : behindL l ws ≠ [] := ne_len (behindL_len ws l) h
theorem idleL_mem {g : Wd} : ∀ {a b : List Wd} {l : List Int} {n : Nat}, steep (behindL l a) ≤ g.2 → ((n + a.length : Nat) : Int) ∈ idleL n l (a ++ g :: b)
  | [], b, l, n, h => by
    have h : steep l ≤ g.2 := h
    simp [idleL, h]
  | w :: a, b, l, n, h => by
    have ih := idleL_mem (b := b) (l := blW l w) (n := n + 1) (a := a) h
    rw [show n + 1 + a.length = n + (w :: a).length by simp; omega] at ih
    show _ ∈ (if steep l ≤ w.2 then (n : Int) :: idleL (n + 1) (blW l w) (a ++ g :: b) else idleL (n + 1) (blW l w) (a ++ g :: b))
    split
    · exact List.mem_cons_of_mem _ ih
    · exact ih
/-- the gentlest slope -/
def leastS (ws : List Wd) : Int := minOf (ws.map (·.2))
theorem leastS_mem {ws : List Wd} (h : ws ≠ []) : ∃ w ∈ ws, w.2 = leastS ws := by
  have := minOf_mem (l := ws.map (·.2)) (by simpa using h)
  obtain ⟨w, hw, e⟩ := List.mem_map.mp this
  exact ⟨w, hw, e⟩
theorem leastS_le {ws : List Wd} {w : Wd} (h : w ∈ ws) : leastS ws ≤ w.2 := minOf_le (List.mem_map.mpr ⟨w, h, rfl⟩)
theorem best_leastS {ws : List Wd} (h : ws ≠ []) : bestDD min .non (ws.map (·.2)) = .int (leastS ws) := by
  cases ws with
  | nil => exact absurd rfl h
  | cons w ws => rfl
/-! ### slices -/
theorem cutD_to {xs : List D} {k : Nat} : cutD xs none (some (k : Int)) = xs.take k := by
  unfold cutD
  rw [HT.sIx_none, HT.sIx_nat, List.drop_zero, Nat.sub_zero]
  rcases Nat.le_total k xs.length with h | h
  · rw [Nat.min_eq_left h]
  · rw [Nat.min_eq_right h, List.take_of_length_le (Nat.le_refl _), List.take_of_length_le h]
theorem cutD_from {xs : List D} {k : Nat} : cutD xs (some (k : Int)) none = xs.drop k := by
  unfold cutD
  rw [HT.sIx_none, HT.sIx_nat]
  rcases Nat.le_total k xs.length with h | h
  · rw [Nat.min_eq_left h, List.take_of_length_le (by rw [List.length_drop]; exact Nat.le_refl _)]
  · rw [Nat.min_eq_right h, List.drop_eq_nil_of_le (Nat.le_refl _), List.drop_eq_nil_of_le h]; simp
theorem cutD_mid {xs : List D} {j k : Nat} (h : j ≤ k) : cutD xs (some (j : Int)) (some (k : Int)) = (xs.drop j).take (k - j) := by
  unfold cutD
  rw [HT.sIx_nat, HT.sIx_nat]
  rcases Nat.le_total k xs.length with g | g
  · rw [Nat.min_eq_left g, Nat.min_eq_left (by omega)]
  · rw [Nat.min_eq_right g]
    rcases Nat.le_total j xs.length with q | q
    · rw [Nat.min_eq_left q, List.take_of_length_le (by rw [List.length_drop]; exact Nat.le_refl _), List.take_of_length_le (by rw [List.length_drop]; omega)]
    · rw [Nat.min_eq_right q, List.drop_eq_nil_of_le (Nat.le_refl _), List.drop_eq_nil_of_le q]; simp
theorem windsD_take (ws : List Wd) (k : Nat) : (windsD ws).take k = windsD (ws.take k) := by unfold windsD; rw [List.map_take]
theorem windsD_drop (ws : List Wd) (k : Nat) : (windsD ws).drop k = windsD (ws.drop k) := by unfold windsD; rw [List.map_drop]
theorem windsD_append (a b : List Wd) : windsD a ++ windsD b = windsD (a ++ b) := by unfold windsD; rw [List.map_append]
theorem windsD_reverse (a : List Wd) : (windsD a).reverse = windsD a.reverse := by unfold windsD; rw [List.map_reverse]
/-! ### == of almanacs -/
theorem sh_word (c : Bool) : (D.str (wordS c)).sh := by cases c with | true => exact sh_cut | false => exact sh_fill
theorem canLay_wind (w : Wd) : PyData.canLay0 (toPy (windD w.1 w.2)) = true := by
  obtain ⟨c, s⟩ := w
  cases c with
  | true => show (PyData.canLay0 (.str "cut") && true) = true; decide +kernel
  | false => show (PyData.canLay0 (.str "fill") && true) = true; decide +kernel
theorem canLay_winds : ∀ ws : List Wd, PyData.canLayAll0 (toPys (windsD ws)) = true
  | [] => rfl
  | w :: ws => by
    show (PyData.canLay0 (toPy (windD w.1 w.2)) && PyData.canLayAll0 (toPys (windsD ws))) = true
    rw [canLay_winds ws, canLay_wind w]; rfl
theorem depth_wind (w : Wd) : PyData.depth (toPy (windD w.1 w.2)) = 1 := rfl
theorem depth_winds : ∀ ws : List Wd, PyData.depthAll (toPys (windsD ws)) ≤ 1
  | [] => by decide
  | w :: ws => by
    show max (PyData.depth (toPy (windD w.1 w.2))) (PyData.depthAll (toPys (windsD ws))) ≤ 1
    rw [depth_wind w]; have := depth_winds ws; omega
theorem sh_winds (ws : List Wd) : (D.lst (windsD ws)).sh := by
  show (PyData.canLayAll0 (toPys (windsD ws)) && decide (PyData.depthAll (toPys (windsD ws)) + 1 ≤ 64)) = true
  rw [canLay_winds]
  have := depth_winds ws
  simp; omega
theorem eqv_nil (ws : List Wd) : (D.lst (windsD ws)).eqv (.lst []) = decide (ws = []) := by
  cases ws with
  | nil => rfl
  | cons w ws => rfl
theorem any_int {l : List Int} {x : Int} (h : x ∈ l) : ((dI l).any fun z => z.eqv (.int x)) = true := by
  rw [List.any_eq_true]
  exact ⟨.int x, List.mem_map.mpr ⟨x, h, rfl⟩, by rw [eqv_int]; simp⟩
end Pl
namespace Pl
open PySem PySem.Spec PyProof.Rows L2
/-! ### any order of two books lies between both ends -/
def loE (c f : Int) (l : List Int) : List Int := fillTo f (cutTo c l)
def hiE (c f : Int) (l : List Int) : List Int := cutTo c (fillTo f l)
theorem loE_gentle {c f : Int} (hc : 0 ≤ c) (hf : 0 ≤ f) (l : List Int) : Gentle c (loE c f l) := blW_keeps (w := (false, f)) hf (cutTo_gentle hc l)
theorem hiE_gentle {c f : Int} (hc : 0 ≤ c) (hf : 0 ≤ f) (l : List Int) : Gentle f (hiE c f l) := blW_keeps (w := (true, c)) hc (fillTo_gentle hf l)
def Fits (c f : Int) (ws : List Wd) : Prop := ∀ w ∈ ws, 0 ≤ w.2 ∧ (w.1 = true → c ≤ w.2) ∧ (w.1 = false → f ≤ w.2)
theorem Fits.tail {c f : Int} {w : Wd} {ws : List Wd} (h : Fits c f (w :: ws)) : Fits c f ws := fun v hv => h v (by simp [hv])
theorem stay_above {c f : Int} {x : List Int} (hx : Gentle c x) : ∀ {ws : List Wd} {y : List Int}, Fits c f ws → Lq x y → Lq x (behindL y ws)
  | [], _, _, h => h
  | (true, s) :: ws, y, hw, h => by
    have := hw (true, s) (by simp)
    exact stay_above hx (ws := ws) (y := cutTo s y) hw.tail (cutTo_max (hx.mono (this.2.1 rfl)) h)
  | (false, s) :: ws, y, hw, h => stay_above hx (ws := ws) (y := fillTo s y) hw.tail (h.trans (fillTo_ge s y))
theorem stay_below {c f : Int} {x : List Int} (hx : Gentle f x) : ∀ {ws : List Wd} {y : List Int}, Fits c f ws → Lq y x → Lq (behindL y ws) x
  | [], _, _, h => h
  | (false, s) :: ws, y, hw, h => by
    have := hw (false, s) (by simp)
    exact stay_below hx (ws := ws) (y := fillTo s y) hw.tail (fillTo_min (hx.mono (this.2.2 rfl)) h)
  | (true, s) :: ws, y, hw, h => stay_below hx (ws := ws) (y := cutTo s y) hw.tail ((cutTo_le s y).trans h)
theorem lo_below {c f : Int} (hc : 0 ≤ c) (hf : 0 ≤ f) {l : List Int} : ∀ {ws : List Wd} {y : List Int}, Fits c f ws → (false, f) ∈ ws → Lq (cutTo c l) y → Lq (loE c f l) (behindL y ws)
  | [], _, _, h, _ => by simp at h
  | w :: ws, y, hw, h, hy => by
    rcases List.mem_cons.mp h with e | h
    · subst e
      exact stay_above (loE_gentle hc hf l) (ws := ws) (y := fillTo f y) hw.tail (fillTo_mono hf hy)
    · refine lo_below hc hf (ws := ws) (y := blW y w) hw.tail h ?_
      obtain ⟨b, s⟩ := w
      cases b with
      | true => exact cutTo_max ((cutTo_gentle hc l).mono ((hw (true, s) (by simp)).2.1 rfl)) hy
      | false => exact hy.trans (fillTo_ge s y)
theorem hi_above {c f : Int} (hc : 0 ≤ c) (hf : 0 ≤ f) {l : List Int} : ∀ {ws : List Wd} {y : List Int}, Fits c f ws → (true, c) ∈ ws → Lq y (fillTo f l) → Lq (behindL y ws) (hiE c f l)
  | [], _, _, h, _ => by simp at h
  | w :: ws, y, hw, h, hy => by
    rcases List.mem_cons.mp h with e | h
    · subst e
      exact stay_below (hiE_gentle hc hf l) (ws := ws) (y := cutTo c y) hw.tail (cutTo_mono hc hy)
    · refine hi_above hc hf (ws := ws) (y := blW y w) hw.tail h ?_
      obtain ⟨b, s⟩ := w
      cases b with
      | false => exact fillTo_min ((fillTo_gentle hf l).mono ((hw (false, s) (by simp)).2.2 rfl)) hy
      | true => exact (cutTo_le s y).trans hy
theorem between {c f : Int} (hc : 0 ≤ c) (hf : 0 ≤ f) {ws : List Wd} (h : Fits c f ws) (h1 : (true, c) ∈ ws) (h2 : (false, f) ∈ ws) (l : List Int) : Lq (loE c f l) (behindL l ws) ∧ Lq (behindL l ws) (hiE c f l) :=
  ⟨lo_below hc hf h h2 (cutTo_le c l), hi_above hc hf h h1 (fillTo_ge f l)⟩
/-! winds of one word -/
theorem cuts_one : ∀ {ws : List Wd} {s : Int} (l : List Int), (∀ w ∈ ws, w.1 = true ∧ 0 ≤ w.2) → 0 ≤ s → behindL (cutTo s l) ws = cutTo ((ws.map (·.2)).foldl min s) l
  | [], _, _, _, _ => rfl
  | (b, t) :: ws, s, l, h, hs => by
    obtain ⟨e, ht⟩ := h (b, t) (by simp)
    have e : b = true := e
    subst e
    have ht : 0 ≤ t := ht
    show behindL (cutTo t (cutTo s l)) ws = _
    rw [cutTo_twice hs ht]
    exact cuts_one (ws := ws) (s := min s t) l (fun w hw => h w (by simp [hw])) (by omega)
theorem fills_one : ∀ {ws : List Wd} {s : Int} (l : List Int), (∀ w ∈ ws, w.1 = false ∧ 0 ≤ w.2) → 0 ≤ s → behindL (fillTo s l) ws = fillTo ((ws.map (·.2)).foldl min s) l
  | [], _, _, _, _ => rfl
  | (b, t) :: ws, s, l, h, hs => by
    obtain ⟨e, ht⟩ := h (b, t) (by simp)
    have e : b = false := e
    subst e
    have ht : 0 ≤ t := ht
    show behindL (fillTo t (fillTo s l)) ws = _
    rw [fillTo_twice hs ht]
    exact fills_one (ws := ws) (s := min s t) l (fun w hw => h w (by simp [hw])) (by omega)
theorem all_cuts {ws : List Wd} (hne : ws ≠ []) (h : ∀ w ∈ ws, w.1 = true ∧ 0 ≤ w.2) (l : List Int) : behindL l ws = cutTo (leastS ws) l := by
  cases ws with
  | nil => exact absurd rfl hne
  | cons w ws =>
    obtain ⟨b, t⟩ := w
    obtain ⟨e, ht⟩ := h (b, t) (by simp)
    have e : b = true := e
    subst e
    exact cuts_one (ws := ws) (s := t) l (fun w hw => h w (by simp [hw])) ht
theorem all_fills {ws : List Wd} (hne : ws ≠ []) (h : ∀ w ∈ ws, w.1 = false ∧ 0 ≤ w.2) (l : List Int) : behindL l ws = fillTo (leastS ws) l := by
  cases ws with
  | nil => exact absurd rfl hne
  | cons w ws =>
    obtain ⟨b, t⟩ := w
    obtain ⟨e, ht⟩ := h (b, t) (by simp)
    have e : b = false := e
    subst e
    exact fills_one (ws := ws) (s := t) l (fun w hw => h w (by simp [hw])) ht
def cutsOf (ws : List Wd) : List Wd := ws.filter fun w => w.1
def fillsOf (ws : List Wd) : List Wd := ws.filter fun w => !w.1
theorem mem_cuts {ws : List Wd} {w : Wd} : w ∈ cutsOf ws ↔ w ∈ ws ∧ w.1 = true := by simp [cutsOf]
theorem mem_fills {ws : List Wd} {w : Wd} : w ∈ fillsOf ws ↔ w ∈ ws ∧ w.1 = false := by simp [fillsOf]
/-- the ends of two books that have a cut and a fill at least -/
theorem ends_of {ws : List Wd} (h : ∀ w ∈ ws, 0 ≤ w.2) (hc : cutsOf ws ≠ []) (hf : fillsOf ws ≠ []) : 0 ≤ leastS (cutsOf ws) ∧ 0 ≤ leastS (fillsOf ws) ∧ (true, leastS (cutsOf ws)) ∈ ws ∧ (false, leastS (fillsOf ws)) ∈ ws ∧ Fits (leastS (cutsOf ws)) (leastS (fillsOf ws)) ws := by
  obtain ⟨⟨b, s⟩, h1, h2⟩ := leastS_mem hc
  obtain ⟨m1, e1⟩ := mem_cuts.mp h1
  have e1 : b = true := e1
  have h2 : s = leastS (cutsOf ws) := h2
  subst e1 h2
  obtain ⟨⟨b, s⟩, g1, g2⟩ := leastS_mem hf
  obtain ⟨m2, e2⟩ := mem_fills.mp g1
  have e2 : b = false := e2
  have g2 : s = leastS (fillsOf ws) := g2
  subst e2 g2
  exact ⟨h _ m1, h _ m2, m1, m2, fun w hw => ⟨h w hw, fun e => leastS_le (mem_cuts.mpr ⟨hw, e⟩), fun e => leastS_le (mem_fills.mpr ⟨hw, e⟩)⟩⟩
theorem low_end {ws : List Wd} (h : ∀ w ∈ ws, 0 ≤ w.2) (hc : cutsOf ws ≠ []) (hf : fillsOf ws ≠ []) (l : List Int) : behindL l (cutsOf ws ++ fillsOf ws) = loE (leastS (cutsOf ws)) (leastS (fillsOf ws)) l := by
  rw [behindL_append, all_cuts hc fun w hw => ⟨(mem_cuts.mp hw).2, h w (mem_cuts.mp hw).1⟩, all_fills hf fun w hw => ⟨(mem_fills.mp hw).2, h w (mem_fills.mp hw).1⟩]; rfl
theorem high_end {ws : List Wd} (h : ∀ w ∈ ws, 0 ≤ w.2) (hc : cutsOf ws ≠ []) (hf : fillsOf ws ≠ []) (l : List Int) : behindL l (fillsOf ws ++ cutsOf ws) = hiE (leastS (cutsOf ws)) (leastS (fillsOf ws)) l := by
  rw [behindL_append, all_fills hf fun w hw => ⟨(mem_fills.mp hw).2, h w (mem_fills.mp hw).1⟩, all_cuts hc fun w hw => ⟨(mem_cuts.mp hw).2, h w (mem_cuts.mp hw).1⟩]; rfl
theorem Fits.perm {c f : Int} {ws vs : List Wd} (h : Fits c f ws) (e : ∀ w, w ∈ vs ↔ w ∈ ws) : Fits c f vs := fun w hw => h w ((e w).mp hw)
/-! neighbours exchanged -/
theorem swap_same {b : Bool} {s t : Int} (hs : 0 ≤ s) (ht : 0 ≤ t) (l : List Int) : blW (blW l (b, s)) (b, t) = blW (blW l (b, t)) (b, s) := by
  show blownL b t (blownL b s l) = blownL b s (blownL b t l)
  rw [blown_twice hs ht, blown_twice ht hs, show min s t = min t s by omega]
theorem swap_cf {s t : Int} (hs : 0 ≤ s) (ht : 0 ≤ t) (l : List Int) : Lq (blW (blW l (true, s)) (false, t)) (blW (blW l (false, t)) (true, s)) := later_le_ahead hs ht l
def g__law_below : FA := fun ds C => ∃ a b, ds = [tD a, tD b] ∧ a.length ≤ 1000 ∧ Lq a b ∧ C (.val (.bl true))
/-- some order of the same winds -/
def g__law_strewn : FB := fun xs ds C => ∃ n a ws, n ≤ 10000000000 ∧ Bx n xs ∧ ds = [a] ∧ Am a ws ∧ ws.length ≤ 100 ∧ ∀ p vs zs, vs.length = ws.length → (∀ w, w ∈ vs ↔ w ∈ ws) → Bx (n + 200) zs → C (.own p (windsD vs)) zs
end Pl
namespace Pl
open PySem PySem.Spec PyProof.Rows L2
variable [TJ]
/-! ### texts: count, join -/
section
variable {X : Cx} {o e : Expr} {to te : TE} {To Te : TEp}
def pCount (To Te : TEp) : TEp := fun ρ Q => To ρ fun x ρ1 => match x with
  | .str a => Te ρ1 fun y ρ2 => match y with
    | .str b => Q (.int (Txt.count a b)) ρ2
    | _ => False
  | _ => False
theorem ppe_count {apos pos : Pos} (ho : PPE X o to To) (he : PPE X e te Te) (hs : starEach [e] X.env = [(false, eval e X.env)] := by rfl) (hbase : attributeBase o "count" X.env (eval o X.env) = eval o X.env := by rfl) (hline : (apos.endLine == pos.line) = true := by rfl) :
    PPE X (.Call (.Attribute o "count" apos) [e] [] pos) (tM1 (fun x xs H Q => ∃ a b, x = .str a ∧ xs = [.str b] ∧ Q (.int (Txt.count a b)) H) to te) (pCount To Te) := ⟨pe_m1 F.slot_str_count F.type_str_count mt_count ho.pe he.pe hs hbase hline, fun G F H σ ρ Q R S hT k =>
  ho.snd G F H σ ρ _ _ S hT fun v d F1 H1 ρ1 u1 S1 r1 q1 => by
    cases r1 with
    | str a =>
      refine ⟨⟨a, rfl⟩, he.snd G F1 H1 σ ρ1 _ _ S1 q1 fun w dw F2 H2 ρ2 u2 S2 r2 q2 => ?_⟩
      cases r2 with
      | str b => exact ⟨a, b, rfl, rfl, k _ _ F2 H2 ρ2 (u1.trans u2) S2 (.int _) q2⟩
      | _ => exact q2.elim
    | _ => exact q1.elim⟩
theorem Reps.strs {K : PySem.W.Frag} {F : Hp} : ∀ {vs : List V} {ys : List Str}, Reps K F vs (ys.map D.str) → vs = ys.map V.str
  | _, [], .nil => rfl
  | _, y :: ys, .cons h t => by cases h; rw [Reps.strs t]; rfl
def pJoin (To Te : TEp) : TEp := fun ρ Q => To ρ fun x ρ1 => match x with
  | .str a => Te ρ1 fun y ρ2 => match y with
    | .lst zs => ∃ ys : List Str, zs = ys.map D.str ∧ (ys.map (·.length)).sum + ys.length * a.length ≤ 16777216 ∧ Q (.str (Txt.join a ys)) ρ2
    | _ => False
  | _ => False
theorem ppe_join {apos pos : Pos} (ho : PPE X o to To) (he : PPE X e te Te) (hs : starEach [e] X.env = [(false, eval e X.env)] := by rfl) (hbase : attributeBase o "join" X.env (eval o X.env) = eval o X.env := by rfl) (hline : (apos.endLine == pos.line) = true := by rfl) :
    PPE X (.Call (.Attribute o "join" apos) [e] [] pos) (tM1 (fun x xs H Q => ∃ a p, ∃ ys : List Str, x = .str a ∧ xs = [.ref p] ∧ (SqL X.K H p (ys.map V.str) ∨ SqT X.K H p (ys.map V.str)) ∧ (ys.map (·.length)).sum + ys.length * a.length ≤ 16777216 ∧ Q (.str (Txt.join a ys)) H) to te) (pJoin To Te) := ⟨pe_join ho.pe he.pe hs hbase hline, fun G F H σ ρ Q R S hT k =>
  ho.snd G F H σ ρ _ _ S hT fun v d F1 H1 ρ1 u1 S1 r1 q1 => by
    cases r1 with
    | str a =>
      refine ⟨⟨a, rfl⟩, he.snd G F1 H1 σ ρ1 _ _ S1 q1 fun w dw F2 H2 ρ2 u2 S2 r2 q2 => ?_⟩
      cases r2 with
      | lst h r =>
        obtain ⟨ys, rfl, hz, q⟩ := q2
        have := r.strs
        subst this
        exact ⟨a, _, ys, rfl, rfl, .inl (SqL.of (S2.hF _ _ h)), hz, k _ _ F2 H2 ρ2 (u1.trans u2) S2 (.str _) q⟩
      | _ => exact q2.elim
    | _ => exact q1.elim⟩
end
/-! ### a text walked -/
def signsD (x : Str) : List D := x.cps.toList.map fun c => .str ⟨#[c]⟩
theorem signsD_get {x : Str} {i : Nat} {d : D} (h : (signsD x)[i]? = some d) : ∃ c, x.cps[i]? = some c ∧ d = .str ⟨#[c]⟩ := by
  unfold signsD at h
  rw [List.getElem?_map] at h
  cases e : x.cps.toList[i]? with
  | none => rw [e] at h; cases h
  | some c => rw [e] at h; exact ⟨c, by rw [← Array.getElem?_toList]; exact e, (Option.some.inj h).symm⟩
theorem signsD_len (x : Str) : (signsD x).length = x.cps.size := by simp [signsD]
theorem itrep_str {K : PySem.W.Frag} {F : Hp} (x : Str) : ItRep K (Its x) F (signsD x) := fun F' H e1 e2 => by
  refine ⟨fun i d hd => ?_, by show x.cps.size ≤ (signsD x).length; rw [signsD_len]; exact Nat.le_refl _⟩
  obtain ⟨c, hc, rfl⟩ := signsD_get hd
  refine ⟨(Array.getElem?_eq_some_iff.mp hc).1, fun v H' y => ?_⟩
  obtain ⟨rfl, c', hc', rfl⟩ := y
  rw [hc] at hc'
  cases hc'
  exact ⟨F', .old (.str _)⟩
section
variable {X : Cx} {tg : Expr} {l : Expr} {tl : TE} {Tl : TEp} {pos : Pos}
def jStr (T : TEp) : TAp := fun ρ Q => T ρ fun d ρ1 => match d with | .str x => Q (signsD x) ρ1 | _ => False
theorem ppi_str (hl : PPE X l tl Tl) : PPI X tg l (iStr tl) (jStr Tl) := ⟨pi_str hl.pe, fun G F H σ ρ Q R S hT k =>
  hl.snd G F H σ ρ _ _ S hT fun v d F1 H1 ρ1 u1 S1 r1 q1 => by
    cases r1 with
    | str x => exact ⟨x, rfl, k _ _ F1 H1 ρ1 u1 S1 (itrep_str x) q1⟩
    | _ => exact q1.elim⟩
end
def ItES (x : Str) : It :=
  ⟨fun i _ => i < x.cps.size,
    fun i H v H' => ∃ T c, v = .ref T ∧ H T = none ∧ H' = upd H T (.tup [.int (i : Nat), .str ⟨#[c]⟩]) ∧ x.cps[i]? = some c,
    fun i _ => i = x.cps.size⟩
theorem turn_es {P : Program} {w : World} {K : PySem.W.Frag} {elts : List Expr} {kk : Nat} {tpos : Pos} {x : Str} {t : Tok} {e it : Addr} (hei : e ≠ it) :
    Turn P w K (.Tuple elts kk tpos) (ItES x) [e, it] e (fun i h => (∃ old, IsEnum h e it ((0 : Int) + (i : Int)) old) ∧ h.IsStrIter it (strIterType x) x t i) := by
  refine turn_goes (by simp) (fun i h st d hd => ?_) (fun i h h' st k => ?_) (fun X hP hw hK hc i pins s σ H I hf st hg => ?_) fun A i s Q E st h => let ⟨⟨_, he⟩, _⟩ := st; wpAny_pyIter_enum he h
  · obtain ⟨⟨old, he⟩, o, h1, hc, h3⟩ := st
    have e' : d = e ∨ d = it := by simpa using hd
    rcases e' with q | q
    · rw [q]; exact ⟨_, he, fun v q => nomatch q⟩
    · rw [q]; exact ⟨o, h1, fun v z => by rw [h3] at z; cases z⟩
  · obtain ⟨⟨old, he⟩, o, h1, hc, h3⟩ := st
    exact ⟨⟨old, k e (by simp) _ he⟩, o, k it (by simp) o h1, hc, h3⟩
  · subst hP hw hK
    obtain ⟨he, h1⟩ := st
    have hh : X.A.in1.handled = none := I.ok.hd hc
    refine ⟨_, _, _, _, _, GoesN.enumFrom 0 (Draws.text hh it x t) e hei (by simp [hei]) (by simp), ⟨he, h1⟩, fun d hd => hd, fun hgo => ⟨hgo, fun v h' hY st' hk => ?_⟩, fun hs => hs⟩
    obtain ⟨T, tt, u, rfl, hT, hu, htup⟩ := hY
    obtain ⟨he', h1'⟩ := st'
    refine ⟨⟨he', h1'⟩, ?_⟩
    obtain ⟨c, uu, hc2, rfl⟩ := hu
    exact ⟨T, .tup [.int (i : Nat), .str ⟨#[c]⟩], rfl, hT, tup_ok (us := [.int ((0 : Int) + (i : Int)) tt, .str ⟨#[c]⟩ uu]) (.cons ⟨tt, by rw [Int.zero_add]⟩ (.cons ⟨uu, rfl⟩ .nil)) htup (by show 2 ≤ sizeLine; decide), T, c, rfl, I.hok.fresh hT, rfl, hc2⟩
def iES (ta : TA) : TI := fun σ H R => ta σ H fun vs H1 => ∃ x, vs = [.str x] ∧ R (ItES x) H1
theorem pi_es {X : Cx} {e : Expr} {ta : TA} {p pos tpos : Pos} {elts : List Expr} {kk : Nat} (hg : Gl X "enumerate") (hm : X.mg "enumerate" = none) (ha : PA X [e] ta) (hs : starEach [e] X.env = [(false, eval e X.env)] := by rfl) :
    PI X (.Tuple elts kk tpos) (.Call (.Name "enumerate" p) [e] [] pos) (iES ta) := by
  refine ⟨fun pins s σ H R I h => ?_⟩
  refine Call_ (ld_blt (u := .type "enumerate") I hg hm (by decide +kernel) (PyProof.Rows.callWith_type1 (thn (ha.run pos pins s σ H _ I h) fun us s1 ⟨vs, H1, I1, r1, q1⟩ => ?_) (by rw [hs]; rfl) rfl))
  obtain ⟨x, ex, q⟩ := q1
  subst ex
  obtain ⟨u, rfl, t, rfl⟩ := r1.one
  refine enum_begins1 (begins_text x t) trivial fun h' he h1 hsz hk => wpAny_pyIter_enum he ?_
  have I2 : Inv X pins σ H1 { s1 with heap := h' } := I1.kept (t' := s1.toks) hk
  refine ⟨s1.heap.objs.size + 1, [s1.heap.objs.size + 1, s1.heap.objs.size], _, _, H1, rfl, I2,
    turn_es (Nat.ne_of_gt (Nat.lt_succ_self _)), ⟨⟨_, he⟩, ⟨_, h1, rfl, rfl⟩⟩, fun d hdm => ?_, q⟩
  have hle : s1.heap.objs.size ≤ d := by
    have e' : d = s1.heap.objs.size + 1 ∨ d = s1.heap.objs.size := by simpa using hdm
    rcases e' with z | z
    · rw [z]; exact Nat.le_add_right _ _
    · rw [z]; exact Nat.le_refl _
  exact I1.fpOk hle (I1.hok.fresh hle)
theorem itrep_es {K : PySem.W.Frag} {F : Hp} (x : Str) : ItRep K (ItES x) F (enumD 0 (signsD x)) := fun F' H e1 e2 => by
  refine ⟨fun i d hd => ?_, by show (enumD 0 (signsD x)).length = x.cps.size; rw [enumD_len, signsD_len]⟩
  obtain ⟨y, hy, rfl⟩ := enumD_get hd
  obtain ⟨c, hc, rfl⟩ := signsD_get hy
  refine ⟨(Array.getElem?_eq_some_iff.mp hc).1, fun v H' q => ?_⟩
  obtain ⟨T, c', rfl, hT, rfl, hc'⟩ := q
  rw [hc] at hc'
  cases hc'
  rw [Nat.zero_add]
  exact ⟨_, .new hT (.tup upd_same (.cons (.int _) (.cons (.str _) .nil)))⟩
section
variable {X : Cx} {pos : Pos}
def jES (T : TAp) : TAp := fun ρ Q => T ρ fun ds ρ1 => match ds with | [.str x] => Q (enumD 0 (signsD x)) ρ1 | _ => False
theorem ppi_es {e : Expr} {ta : TA} {TA' : TAp} {p tpos : Pos} {elts : List Expr} {kk : Nat} (hg : Gl X "enumerate") (hm : X.mg "enumerate" = none) (ha : PPA X [e] ta TA') (hs : starEach [e] X.env = [(false, eval e X.env)] := by rfl) :
    PPI X (.Tuple elts kk tpos) (.Call (.Name "enumerate" p) [e] [] pos) (iES ta) (jES TA') := ⟨pi_es hg hm ha.pa hs, fun G F H σ ρ Q R S h k =>
  ha.snd G F H σ ρ _ _ S h fun vs ds F' H' ρ' u S' rv q => by
    match ds, rv, q with
    | [.str x], .cons rx .nil, q =>
      cases rx
      exact ⟨x, rfl, k _ _ F' H' ρ' u S' (itrep_es x) q⟩⟩
end
/-! ### name.pop(e) -/
theorem Reps.eraseIdx {K : PySem.W.Frag} {F : Hp} : ∀ {vs : List V} {ds : List D} (i : Nat), Reps K F vs ds → Reps K F (vs.eraseIdx i) (ds.eraseIdx i)
  | _, _, _, .nil => .nil
  | _, _, 0, .cons _ t => t
  | _, _, i + 1, .cons q t => .cons q (Reps.eraseIdx i t)
theorem seqIndex_nat {k n : Nat} (h : k < n) : seqIndex? (k : Int) n = some k := by
  have h1 : ¬ ((k : Int) < 0) := by omega
  have h2 : (decide (0 ≤ (k : Int)) && decide ((k : Int) < (n : Int))) = true := by simp; omega
  show (if (decide (0 ≤ (if (k : Int) < 0 then (k : Int) + n else k)) && decide ((if (k : Int) < 0 then (k : Int) + n else k) < (n : Int))) = true then some (if (k : Int) < 0 then (k : Int) + n else k).toNat else none) = some k
  rw [if_neg h1, if_pos h2]
  rfl
section
variable {X : Cx} {e : Expr} {te : TE} {Te : TEp}
def pPop (i : Nat) (Te : TEp) : TEp := fun ρ Q => match ρ[i]? with
  | some (some (.own a _)) => Te ρ fun y ρ1 => ∃ (xs1 : List D) (k : Nat) (v : D), ρ1[i]? = some (some (.own a xs1)) ∧ y = .int (k : Int) ∧ k < 1000000 ∧ xs1[k]? = some v ∧ Q v (ρ1.set i (some (.own a (xs1.eraseIdx k))))
  | _ => False
theorem ppe_pop (i : Nat) {x : Str} {p ap cp : Pos} (he : PPE X e te Te) (hN : X.N[i]? = some x := by rfl) (hv : Vis X.env.scope x := by first | exact Or.inl rfl | exact Or.inr (Or.inl rfl) | exact Or.inr (Or.inr rfl)) (hd : (x == ("__debug__" : Str)) = false := by decide)
    (hcd : (x == ("__classdict__" : Str)) = false := by decide)
    (hbase : attributeBase (.Name x p) "pop" X.env (eval (.Name x p) X.env) = eval (.Name x p) X.env := by rfl)
    (hfew : ((backTo cp (starEach [e] X.env)).all (fun x => !x.1) && (backToKw cp (keywordEach [] X.env)).all (fun x => x.1.isSome)
      && decide ([e].length + ([] : List Keyword).length + (if ([] : List Keyword).isEmpty then 0 else 1) < 30)) = true := by rfl)
    (hline : (ap.endLine == cp.line) = true := by rfl) (hs : starEach [e] X.env = (false, eval e X.env) :: starEach [] X.env := by rfl) :
    PPE X (.Call (.Attribute (.Name x p) "pop" ap) [e] [] cp) (tBM X.K "list" rPopAt (tVar i) (tCons te tNil)) (pPop i Te) := ⟨pe_bm PySem.F.plainAttrs_list PySem.F.slot_list_pop PySem.F.type_list_pop mt_popAt (pe_var hN hv hd hcd) (pa_cons he.pe pa_nil hs) hbase hfew hline hs rfl, fun G F H σ ρ Q R S hT k => by
  unfold pPop at hT
  split at hT
  · rename_i a xs e0
    obtain ⟨h1, h2, h3, vs, h4, h5⟩ := S.own i a xs e0
    refine ⟨.ref a, h1, .inl ⟨rfl, _, SqL.of h4⟩, he.snd G F H σ ρ _ _ S hT fun y dy F1 H1 ρ1 u1 S1 r1 q1 => ?_⟩
    obtain ⟨xs1, j, v, e1, rfl, hj, e2, q⟩ := q1
    obtain ⟨g1, g2, g3, ws, g4, g5⟩ := S1.own i a xs1 e1
    cases r1
    obtain ⟨w, hw, rw'⟩ := g5.get e2
    exact ⟨a, ws, j, j, w, rfl, rfl, g4, by omega, by omega, seqIndex_nat (lt_of_get hw), hw, k w v F1 _ _ u1 (S1.mut e1 (g5.eraseIdx j)) rw' q⟩
  · exact hT.elim⟩
end
/-! ### name += e, numbers -/
section
variable {X : Cx} {e : Expr} {te : TE} {Te : TEp} {pos : Pos}
def pAugI (i : Nat) (f : Int → Int → Int) (Te : TEp) : TSp := fun P ρ => ∃ a : Int, ρ[i]? = some (some (.val (.int a))) ∧ Te ρ fun d ρ1 => match d with
  | .int b => P.nx (ρ1.set i (some (.val (.int (f a b)))))
  | _ => False
theorem snd_aug {K : PySem.W.Frag} {i : Nat} {f : Int → Int → Int} (he : SndE K te Te) : SndS K (tAug i te (ipI f)) (pAugI i f Te) := fun G F H σ ρ P D S h r => by
  obtain ⟨a, e0, h⟩ := h
  obtain ⟨v, h1, r1⟩ := S.val i _ e0
  cases r1
  refine ⟨_, h1, he G F H σ ρ _ _ S h fun w d F1 H1 ρ1 u1 S1 r2 q => ?_⟩
  cases r2 with
  | int b => exact ⟨a, b, rfl, rfl, r.nx F1 H1 _ _ u1 (S1.setVal i (.int _)) q⟩
  | _ => exact q.elim
theorem pps_augAdd {i : Nat} {x : Str} {pos' : Pos} (hN : X.N.Nodup) (he : PPE X e te Te) (hi : X.N[i]? = some x := by rfl) (hx : Loc X.env.scope x := by first | exact Or.inl rfl | exact Or.inr rfl) (hf : X.fn x = true ∨ X.env.scope.names.lookup x = some .local := by first | exact .inl rfl | exact .inr rfl | assumption) :
    PPS X (.AugAssign (.Name x pos') .Add e pos) (tAug i te (ipI fun i j => i + j)) (pAugI i (fun i j => i + j) Te) := ⟨ps_aug hN hi hx he.pe ip_add hf, snd_aug he.snd⟩
theorem pps_augSub {i : Nat} {x : Str} {pos' : Pos} (hN : X.N.Nodup) (he : PPE X e te Te) (hi : X.N[i]? = some x := by rfl) (hx : Loc X.env.scope x := by first | exact Or.inl rfl | exact Or.inr rfl) (hf : X.fn x = true ∨ X.env.scope.names.lookup x = some .local := by first | exact .inl rfl | exact .inr rfl | assumption) :
    PPS X (.AugAssign (.Name x pos') .Sub e pos) (tAug i te (ipI fun i j => i - j)) (pAugI i (fun i j => i - j) Te) := ⟨ps_aug hN hi hx he.pe ip_sub hf, snd_aug he.snd⟩
end
end Pl
namespace Pl
open PySem PySem.Spec PyProof.Rows L2
variable [TJ]
/-! ### slices of texts -/
section
variable {X : Cx} {a : Expr} {ta : TE} {Ta : TEp} {pos : Pos}
def pSlS (Te : TEp) (Tl Th : TOp) : TEp := fun ρ Q => Te ρ fun x ρ1 => Tl ρ1 fun l ρ2 => Th ρ2 fun u ρ3 => match x with
  | .str z => z.length ≤ sizeLine ∧ Q (.str (cutS z l u)) ρ3
  | _ => False
theorem ppe_sliceS {lo hi : Option Expr} {tl th : TO} {Tl Th : TOp} {p2 : Pos} (ha : PPE X a ta Ta) (hl : PPO X lo tl Tl) (hh : PPO X hi th Th) : PPE X (.Subscript a (.Slice lo hi none p2) pos) (tSl rSlS ta tl th) (pSlS Ta Tl Th) := ⟨pe_slice sl_str ha.pe hl.po hh.po, fun G F H σ ρ Q R S hT k =>
  ha.snd G F H σ ρ _ _ S hT fun v d F1 H1 ρ1 u1 S1 r1 q1 => hl.snd G F1 H1 σ ρ1 _ _ S1 q1 fun l F2 H2 ρ2 u2 S2 q2 => hh.snd G F2 H2 σ ρ2 _ _ S2 q2 fun h F3 H3 ρ3 u3 S3 q3 => by
    have up := (u1.trans u2).trans u3
    cases r1 with
    | str z => exact ⟨z, rfl, q3.1, k _ _ F3 H3 ρ3 up S3 (.str _) q3.2⟩
    | _ => exact q3.elim⟩
/-! ### reversed(range(n)) -/
def downD (n : Nat) : List D := (List.range n).map fun (i : Nat) => .int ((n : Int) - 1 - (i : Int))
theorem itrep_down {K : PySem.W.Frag} {F : Hp} (n : Nat) : ItRep K (Itc (0 + (((((n : Int) - 0).toNat : Nat)) : Int) - 1) (-1) ((n : Int) - 0).toNat) F (downD n) := fun F' H e1 e2 => by
  have hn : ((n : Int) - 0).toNat = n := by omega
  refine ⟨fun i d hd => ?_, ?_⟩
  · have hi : i < n := by have := lt_of_get hd; simpa [downD] using this
    refine ⟨by show i < ((n : Int) - 0).toNat; omega, fun x H' y => ?_⟩
    obtain ⟨rfl, rfl⟩ := y
    have e : d = .int ((n : Int) - 1 - i) := by
      unfold downD at hd
      rw [List.getElem?_map, List.getElem?_range hi] at hd
      exact (Option.some.inj hd).symm
    subst e
    have e2 : 0 + (((((n : Int) - 0).toNat : Nat)) : Int) - 1 + (i : Int) * (-1) = (n : Int) - 1 - i := by rw [hn]; omega
    rw [e2]
    exact ⟨F', .old (.int _)⟩
  · show ((n : Int) - 0).toNat ≤ (downD n).length
    simp [downD]
def jRev (T : TEp) : TAp := fun ρ Q => T ρ fun d ρ1 => match d with | .int m => ∃ n : Nat, m = (n : Int) ∧ n < 2 ^ 61 ∧ Q (downD n) ρ1 | _ => False
theorem ppi_rev {tg : Expr} {p q pos2 : Pos} (hg : Gl X "reversed") (hm : X.mg "reversed" = none) (hgr : Gl X "range") (hmr : X.mg "range" = none) (ha : PPE X a ta Ta) (na : starEach [a] X.env = (false, eval a X.env) :: starEach [] X.env := by rfl)
    (nb : starEach [.Call (.Name "range" q) [a] [] pos2] X.env = (false, eval (.Call (.Name "range" q) [a] [] pos2) X.env) :: starEach [] X.env := by rfl) :
    PPI X tg (.Call (.Name "reversed" p) [.Call (.Name "range" q) [a] [] pos2] [] pos) (iRevR (tRg1 ta)) (jRev Ta) := ⟨pi_revR hg hm (prg_1 hgr hmr ha.pe na) nb, fun G F H σ ρ Q R S hT k =>
  ha.snd G F H σ ρ _ _ S hT fun v d F1 H1 ρ1 u1 S1 r1 q1 => by
    cases r1 with
    | int m =>
      obtain ⟨n, rfl, hn, q⟩ := q1
      exact ⟨n, rfl, by omega, by omega, by omega, by omega, k _ _ F1 H1 ρ1 u1 S1 (itrep_down n) q⟩
    | _ => exact q1.elim⟩
end
/-! ### name.reverse() -/
section
variable {X : Cx} {pos : Pos}
def pReverse (i : Nat) : TSp := fun P ρ => match ρ[i]? with
  | some (some (.own a xs)) => P.nx (ρ.set i (some (.own a xs.reverse)))
  | _ => False
theorem pps_reverse (i : Nat) {x : Str} {p ap cp : Pos} (hN : X.N[i]? = some x := by rfl) (hv : Vis X.env.scope x := by first | exact Or.inl rfl | exact Or.inr (Or.inl rfl) | exact Or.inr (Or.inr rfl)) (hd : (x == ("__debug__" : Str)) = false := by decide)
    (hcd : (x == ("__classdict__" : Str)) = false := by decide)
    (hbase : attributeBase (.Name x p) "reverse" X.env (eval (.Name x p) X.env) = eval (.Name x p) X.env := by rfl)
    (hline : (ap.endLine == cp.line) = true := by rfl)
    (hsw : swapsWith (.Call (.Attribute (.Name x p) "reverse" ap) [] [] cp) none pos.line X.env = pure false := by rfl) :
    PPS X (.Expr (.Call (.Attribute (.Name x p) "reverse" ap) [] [] cp) pos) (tDrop (tBM0 X.K "list" rReverse (tVar i))) (pReverse i) := ⟨ps_expr (pe_bm0 PySem.F.plainAttrs_list PySem.F.slot_list_reverse PySem.F.type_list_reverse mt_reverse (pe_var hN hv hd hcd) hbase hline) hsw, fun G F H σ ρ P D S hT r => by
  unfold pReverse at hT
  split at hT
  · rename_i a xs e0
    obtain ⟨h1, h2, h3, vs, h4, h5⟩ := S.own i a xs e0
    exact ⟨.ref a, h1, .inl ⟨rfl, _, SqL.of h4⟩, a, vs, rfl, rfl, h4, r.nx F _ _ _ (.refl _ _) (S.mut e0 h5.reverse) hT⟩
  · exact hT.elim⟩
end
end Pl
namespace Pl
open PySem PySem.Spec PyProof.Rows L2
variable [TJ]
/-! ### a name as a bare address; append by way of another name -/
section
variable {X : Cx} {e : Expr} {te : TE} {Te : TEp} {pos : Pos}
def pAdr (i : Nat) : TEp := fun ρ Q => ∃ (a : Addr) (xs : List D), ρ[i]? = some (some (.own a xs)) ∧ Q (.adr a) ρ
theorem ppe_adr (i : Nat) {x : Str} (hN : X.N[i]? = some x := by rfl) (hv : Vis X.env.scope x := by first | exact Or.inl rfl | exact Or.inr (Or.inl rfl) | exact Or.inr (Or.inr rfl)) (hd : (x == ("__debug__" : Str)) = false := by decide)
    (hcd : (x == ("__classdict__" : Str)) = false := by decide) : PPE X (.Name x pos) (tVar i) (pAdr i) := ⟨pe_var hN hv hd hcd, fun G F H σ ρ Q R S hT k => by
  obtain ⟨a, xs, e, q⟩ := hT
  exact ⟨.ref a, (S.own i a xs e).1, k _ _ F H ρ (.refl _ _) S (.adr a) q⟩⟩
def pAppendA (i : Nat) (js : List Nat) (Te : TEp) : TSp := fun P ρ => ∃ a : Addr, ρ[i]? = some (some (.val (.adr a))) ∧ (∃ j ∈ js, ∃ xs, ρ[j]? = some (some (.own a xs))) ∧ Te ρ fun y ρ1 => ∃ (j : Nat) (xs1 : List D), j ∈ js ∧ ρ1[j]? = some (some (.own a xs1)) ∧ xs1.length < sizeLine ∧ P.nx (ρ1.set j (some (.own a (xs1 ++ [y]))))
theorem pps_appendA (i : Nat) (js : List Nat) {x : Str} {p ap cp : Pos} (he : PPE X e te Te) (hN : X.N[i]? = some x := by rfl) (hv : Vis X.env.scope x := by first | exact Or.inl rfl | exact Or.inr (Or.inl rfl) | exact Or.inr (Or.inr rfl)) (hd : (x == ("__debug__" : Str)) = false := by decide)
    (hcd : (x == ("__classdict__" : Str)) = false := by decide)
    (hbase : attributeBase (.Name x p) "append" X.env (eval (.Name x p) X.env) = eval (.Name x p) X.env := by rfl)
    (hfew : ((backTo cp (starEach [e] X.env)).all (fun x => !x.1) && (backToKw cp (keywordEach [] X.env)).all (fun x => x.1.isSome)
      && decide ([e].length + ([] : List Keyword).length + (if ([] : List Keyword).isEmpty then 0 else 1) < 30)) = true := by rfl)
    (hline : (ap.endLine == cp.line) = true := by rfl) (hs : starEach [e] X.env = (false, eval e X.env) :: starEach [] X.env := by rfl)
    (hsw : swapsWith (.Call (.Attribute (.Name x p) "append" ap) [e] [] cp) none pos.line X.env = pure false := by rfl) :
    PPS X (.Expr (.Call (.Attribute (.Name x p) "append" ap) [e] [] cp) pos) (tDrop (tBM X.K "list" rAppend (tVar i) (tCons te tNil))) (pAppendA i js Te) := ⟨ps_expr (pe_bm PySem.F.plainAttrs_list PySem.F.slot_list_append PySem.F.type_list_append mt_append (pe_var hN hv hd hcd) (pa_cons he.pe pa_nil hs) hbase hfew hline hs rfl) hsw, fun G F H σ ρ P D S hT r => by
  obtain ⟨a, e0, ⟨j0, hj0, xs0, e00⟩, hT⟩ := hT
  obtain ⟨v, h1, r0⟩ := S.val i _ e0
  cases r0
  obtain ⟨_, _, _, vs0, h40, _⟩ := S.own j0 a xs0 e00
  refine ⟨.ref a, h1, .inl ⟨rfl, _, SqL.of h40⟩, he.snd G F H σ ρ _ _ S hT fun y dy F1 H1 ρ1 u1 S1 r1 q1 => ?_⟩
  obtain ⟨j, xs1, _, e1, hz, q⟩ := q1
  obtain ⟨g1, g2, g3, ws, g4, g5⟩ := S1.own j a xs1 e1
  exact ⟨a, ws, y, rfl, rfl, g4, by rw [g5.length]; exact hz, r.nx F1 _ _ _ u1 (S1.mut e1 (g5.append (.one r1))) q⟩⟩
end
/-! ### several cells made one behind the other -/
abbrev TCs := Ro → (List Cell → Ro → Prop) → Prop
def CellOk (K : PySem.W.Frag) (G F H : Hp) (ρ : Ro) (v : V) (c : Cell) : Prop := match c with
  | .val d => Rep K F v d
  | .own p xs => v = .ref p ∧ F p = none ∧ G p = none ∧ NotOwn ρ p ∧ ∃ us, H p = some (.lst us) ∧ Reps K F us xs
def CellsOk (K : PySem.W.Frag) (G F H : Hp) (ρ : Ro) : List V → List Cell → Prop
  | [], [] => True
  | v :: vs, c :: cs => CellOk K G F H ρ v c ∧ CellsOk K G F H ρ vs cs ∧ ∀ p xs, c = .own p xs → ∀ q ys, Cell.own q ys ∈ cs → q ≠ p
  | _, _ => False
def SndCs (K : PySem.W.Frag) (t : TA) (T : TCs) : Prop := ∀ (G F H : Hp) (σ : L2.St) (ρ : Ro) (Q : List Cell → Ro → Prop) (R : List V → Hp → Prop), Sim K G F H σ ρ → T ρ Q →
  (∀ vs cs F' H' ρ', Up G F F' → Sim K G F' H' σ ρ' → CellsOk K G F' H' ρ' vs cs → Q cs ρ' → R vs H') → t σ H R
structure PPCs (X : Cx) (es : List Expr) (t : TA) (T : TCs) : Prop where
  pa : PA X es t
  snd : SndCs X.K t T
theorem CellsOk.gone {K : PySem.W.Frag} {G F H : Hp} {ρ : Ro} {p : Addr} {o : HO} : ∀ {vs : List V} {cs : List Cell}, CellsOk K (upd G p o) F H ρ vs cs → ∀ q ys, Cell.own q ys ∈ cs → q ≠ p
  | [], [], _, q, ys, h => by simp at h
  | v :: vs, c :: cs, g, q, ys, h => by
    rcases List.mem_cons.mp h with e | h
    · subst e
      intro z
      have := g.1.2.2.1
      rw [z, upd_same] at this
      cases this
    · exact CellsOk.gone g.2.1 q ys h
  | [], _ :: _, g, _, _, _ => g.elim
  | _ :: _, [], g, _, _, _ => g.elim
theorem CellsOk.less {K : PySem.W.Frag} {G F H : Hp} {ρ : Ro} {p : Addr} {o : HO} : ∀ {vs : List V} {cs : List Cell}, CellsOk K (upd G p o) F H ρ vs cs → CellsOk K G F H ρ vs cs
  | [], [], _ => trivial
  | v :: vs, c :: cs, g => by
    refine ⟨?_, CellsOk.less g.2.1, g.2.2⟩
    cases c with
    | val d => exact g.1
    | own q xs =>
      obtain ⟨h1, h2, h3, h4⟩ := g.1
      have n : q ≠ p := fun z => by rw [z, upd_same] at h3; cases h3
      exact ⟨h1, h2, by rw [upd_ne n] at h3; exact h3, h4⟩
  | [], _ :: _, g => g.elim
  | _ :: _, [], g => g.elim
section
variable {X : Cx} {e : Expr} {es : List Expr} {te : TE} {t : TA} {T : TCs} {Tc : TCp} {pos : Pos}
def pNilC : TCs := fun ρ Q => Q [] ρ
def pConsC (Tc : TCp) (T : TCs) : TCs := fun ρ Q => Tc ρ fun c ρ1 => T ρ1 fun cs ρ2 => Q (c :: cs) ρ2
theorem ppcs_nil : PPCs X [] tNil pNilC := ⟨pa_nil, fun G F H σ ρ Q R S hT k => k [] [] F H ρ (.refl _ _) S trivial hT⟩
theorem ppcs_cons (h1 : PPC X e te Tc) (h2 : PPCs X es t T) (hs : starEach (e :: es) X.env = (false, eval e X.env) :: starEach es X.env := by rfl) : PPCs X (e :: es) (tCons te t) (pConsC Tc T) := ⟨pa_cons h1.pe h2.pa hs, fun G F H σ ρ Q R S hT k =>
  h1.snd G F H σ ρ _ _ S hT fun v c F1 H1 ρ1 u1 S1 q1 => by
    cases c with
    | val d =>
      have r := S1.lastVal
      refine h2.snd G F1 H1 σ ρ1 _ _ S1.drop q1 fun vs cs F2 H2 ρ2 u2 S2 o2 q2 => k (v :: vs) (.val d :: cs) F2 H2 ρ2 (u1.trans u2) S2 ⟨r.mono u2.ex, o2, fun p xs z => by cases z⟩ q2
    | own p xs =>
      obtain ⟨rfl, h2', h3, h4, us, h5, h6⟩ := S1.lastOwn
      have S0 := S1.drop
      have SG : Sim X.K (upd G p (.lst us)) F1 H1 σ ρ1 := by
        refine ⟨S0.hF, S0.hG.guard h5, S0.len, S0.val, fun i b ys q => ?_, S0.ne⟩
        · obtain ⟨g1, g2, g3, g4⟩ := S0.own i b ys q
          have n : b ≠ p := fun z => by subst z; exact h4 i ys q
          exact ⟨g1, g2, by rw [upd_ne n]; exact g3, g4⟩
      refine h2.snd (upd G p (.lst us)) F1 H1 σ ρ1 _ _ SG q1 fun vs cs F2 H2 ρ2 u2 S2 o2 q2 => ?_
      have hp2 : H2 p = some (.lst us) := S2.hG p _ upd_same
      have fp2 : F2 p = none := u2.isNone h2' upd_same
      have np2 : NotOwn ρ2 p := fun i ys q => by
        have := (S2.own i p ys q).2.2.1
        rw [upd_same] at this; cases this
      have up2 : Up G F1 F2 := u2.less (same_new h3)
      have SF : Sim X.K G F2 H2 σ ρ2 := by
        refine ⟨S2.hF, S2.hG.less (same_new h3), S2.len, S2.val, fun i b ys q => ?_, S2.ne⟩
        obtain ⟨g1, g2, g3, g4⟩ := S2.own i b ys q
        have n : b ≠ p := fun z => by rw [z, upd_same] at g3; cases g3
        exact ⟨g1, g2, by rw [upd_ne n] at g3; exact g3, g4⟩
      refine k (.ref p :: vs) (.own p xs :: cs) F2 H2 ρ2 (u1.trans up2) SF ⟨⟨rfl, fp2, h3, np2, us, hp2, h6.mono u2.ex⟩, o2.less, fun q xs' z w ys hw => ?_⟩ q2
      cases z
      exact o2.gone w ys hw⟩
theorem Sim.put {K : PySem.W.Frag} {G F H : Hp} {σ : L2.St} {ρ : Ro} {v : V} {c : Cell} (S : Sim K G F H σ ρ) (i : Nat) (h : CellOk K G F H ρ v c) : Sim K G F H (σ.set i (some v)) (ρ.set i (some c)) := by
  cases c with
  | val d => exact S.setVal i h
  | own p xs =>
    obtain ⟨rfl, h2, h3, h4, us, h5, h6⟩ := h
    exact S.setOwn i h5 h2 h3 h4 h6
theorem NotOwn.put {ρ : Ro} {p : Addr} {c : Cell} {i : Nat} (h : NotOwn ρ p) (hc : ∀ q ys, c = .own q ys → p ≠ q) : NotOwn (ρ.set i (some c)) p := fun j ys e => by
  by_cases hj : i = j
  · subst hj
    by_cases hi : i < ρ.length
    · rw [List.getElem?_set_self hi] at e
      cases e
      exact hc _ _ rfl rfl
    · rw [List.getElem?_eq_none (by simpa using hi)] at e; cases e
  · rw [List.getElem?_set_ne hj] at e; exact h j ys e
theorem CellOk.put {K : PySem.W.Frag} {G F H : Hp} {ρ : Ro} {v : V} {c c' : Cell} {i : Nat} (h : CellOk K G F H ρ v c) (hc : ∀ p xs, c' = .own p xs → ∀ q ys, c = .own q ys → q ≠ p) : CellOk K G F H (ρ.set i (some c')) v c := by
  cases c with
  | val d => exact h
  | own p xs =>
    obtain ⟨h1, h2, h3, h4, h5⟩ := h
    exact ⟨h1, h2, h3, h4.put fun q ys e => hc q ys e p xs rfl, h5⟩
def pParC (i j : Nat) (T : TCs) : TSp := fun P ρ => T ρ fun cs ρ1 => match cs with | [x, y] => P.nx ((ρ1.set i (some x)).set j (some y)) | _ => False
theorem pps_parC {i j : Nat} {x y : Str} {a b : Expr} {ta : TA} {px py pt : Pos} {kt k2 pt2} (hc : X.calm = true) (hN : X.N.Nodup) (ha : PPCs X [a, b] ta T) (hi : X.N[i]? = some x := by rfl) (hj : X.N[j]? = some y := by rfl) (hij : i ≠ j := by decide)
    (hx : X.env.scope.names.lookup x = some .local := by rfl) (hy : X.env.scope.names.lookup y = some .local := by rfl)
    (hw : swappedStores [.Tuple [.Name x px, .Name y py] kt pt] (.Tuple [a, b] k2 pt2) X.env = pure (some [x, y]) := by rfl)
    (hs : swapsWithSole [.Tuple [.Name x px, .Name y py] kt pt] (.Tuple [a, b] k2 pt2) pos.line X.env = pure false := by rfl) :
    PPS X (.Assign [.Tuple [.Name x px, .Name y py] kt pt] (.Tuple [a, b] k2 pt2) pos) (tPar i j ta) (pParC i j T) := ⟨ps_par hc hN hi hj hij hx hy ha.pa hw hs, fun G F H σ ρ P D S hT r =>
  ha.snd G F H σ ρ _ _ S hT fun vs cs F' H' ρ' u S' o q => by
    match vs, cs, o, q with
    | [v1, v2], [c1, c2], o, q =>
      refine ⟨v1, v2, rfl, r.nx F' H' _ _ u ((S'.put i o.1).put j (o.2.1.1.put fun p xs e w ys e2 => ?_)) q⟩
      subst e2
      exact o.2.2 p xs e w ys (by simp)
    | [], [], _, q => exact q.elim
    | [_], [_], _, q => exact q.elim
    | _ :: _ :: _ :: _, _ :: _ :: _ :: _, _, q => exact q.elim⟩
def pParC3 (i j l : Nat) (T : TCs) : TSp := fun P ρ => T ρ fun cs ρ1 => match cs with | [x, y, z] => P.nx (((ρ1.set i (some x)).set j (some y)).set l (some z)) | _ => False
theorem pps_parC3 {i j l : Nat} {x y z : Str} {a b c : Expr} {ta : TA} {px py pz pt : Pos} {kt k2 pt2} (hc : X.calm = true) (hN : X.N.Nodup) (ha : PPCs X [a, b, c] ta T) (hi : X.N[i]? = some x := by rfl) (hj : X.N[j]? = some y := by rfl) (hl : X.N[l]? = some z := by rfl) (hij : i ≠ j := by decide) (hil : i ≠ l := by decide) (hjl : j ≠ l := by decide)
    (hx : X.env.scope.names.lookup x = some .local := by rfl) (hy : X.env.scope.names.lookup y = some .local := by rfl) (hz : X.env.scope.names.lookup z = some .local := by rfl)
    (hw : swappedStores [.Tuple [.Name x px, .Name y py, .Name z pz] kt pt] (.Tuple [a, b, c] k2 pt2) X.env = pure (some [x, y, z]) := by rfl)
    (hs : swapsWithSole [.Tuple [.Name x px, .Name y py, .Name z pz] kt pt] (.Tuple [a, b, c] k2 pt2) pos.line X.env = pure false := by rfl) :
    PPS X (.Assign [.Tuple [.Name x px, .Name y py, .Name z pz] kt pt] (.Tuple [a, b, c] k2 pt2) pos) (tPar3 i j l ta) (pParC3 i j l T) := ⟨ps_par3 hc hN hi hj hl hij hil hjl hx hy hz ha.pa hw hs, fun G F H σ ρ P D S hT r =>
  ha.snd G F H σ ρ _ _ S hT fun vs cs F' H' ρ' u S' o q => by
    match vs, cs, o, q with
    | [v1, v2, v3], [c1, c2, c3], o, q =>
      refine ⟨v1, v2, v3, rfl, r.nx F' H' _ _ u (((S'.put i o.1).put j (o.2.1.1.put fun p xs e w ys e2 => ?_)).put l ((o.2.1.2.1.1.put fun p xs e w ys e2 => ?_).put fun p xs e w ys e2 => ?_)) q⟩
      · subst e2; exact o.2.2 p xs e w ys (by simp)
      · subst e2; exact o.2.2 p xs e w ys (by simp)
      · subst e2; exact o.2.1.2.2 p xs e w ys (by simp)
    | [], [], _, q => exact q.elim
    | [_], [_], _, q => exact q.elim
    | [_, _], [_, _], _, q => exact q.elim
    | _ :: _ :: _ :: _ :: _, _ :: _ :: _ :: _ :: _, _, q => exact q.elim⟩
end
end Pl
namespace Pl
open PySem PySem.Spec PyProof.Rows L2
variable [TJ]
/-! ### text * number -/
section
variable {X : Cx} {a b : Expr} {ta tb : TE} {Ta Tb : TEp} {pos : Pos}
def rMulS : R2 := fun x y H Q => ∃ i j, x = .str i ∧ y = .int j ∧ MulOk i j ∧ Q (.str (Txt.mul i j)) H
theorem op_mulS : OpR X (binaryOp .Mult) rMulS := by
  intro pins s σ H x y v u Q I rx ry h
  obtain ⟨i, j, rfl, rfl, hz, q⟩ := h
  obtain ⟨t, rfl⟩ := rx
  obtain ⟨t', rfl⟩ := ry
  exact PySem.SB.mul hz fun t' k => ⟨.str (Txt.mul i j), H, I.tok _, ⟨_, rfl⟩, q⟩
def fMulS : F2 := fun x y Q => match x, y with
  | .str i, .int j => MulOk i j ∧ Q (.str (Txt.mul i j))
  | _, _ => False
theorem ppe_mulS (ha : PPE X a ta Ta) (hb : PPE X b tb Tb) : PPE X (.BinOp a .Mult b pos) (tOp rMulS ta tb) (pOp fMulS Ta Tb) := ppe_op op_mulS (fun F H x y dx dy Q R hs rx ry hf k => by
  cases rx with
  | str i =>
    cases ry with
    | int j => exact ⟨i, j, rfl, rfl, hf.1, k _ _ _ _ (.old (.str _)) hf.2⟩
    | _ => exact hf.elim
  | _ => exact hf.elim) ha hb
theorem mulOk_small {x : Str} {n : Int} (hx : x.length ≤ 10) (h0 : 0 ≤ n) (h1 : n ≤ 1000) : MulOk x n := by
  have hm : (x.length : Int) * n ≤ 10 * 1000 := Int.mul_le_mul (by omega) h1 h0 (by decide)
  refine ⟨by simp; omega, fun h _ => ?_, fun h _ => ?_⟩
  · have : (x.length : Int) ≤ (2 ^ 63 - 1) / n := Int.le_ediv_of_mul_le (by omega) (by omega)
    omega
  · unfold Builtin.Str.tooLong
    have h2 : x.length * n.toNat ≤ 10 * 1000 := Nat.mul_le_mul hx (by omega)
    rw [sizeLine_eq]
    simp
    omega
end
end Pl
namespace Pl
open PySem PySem.Spec PyProof.Rows L2
variable [TJ]
/-! ### a + b of lists: a new list of one's own -/
section
variable {X : Cx} {a b : Expr} {ta tb : TE} {Ta Tb : TEp} {pos : Pos}
def pCatO (Ta Tb : TEp) : TCp := fun ρ Q => Ta ρ fun x ρ1 => Tb ρ1 fun y ρ2 => match x, y with
  | .lst xs, .lst ys => xs.length + ys.length ≤ sizeLine ∧ ∀ p, Q (.own p (xs ++ ys)) ρ2
  | _, _ => False
theorem ppc_cat (ha : PPE X a ta Ta) (hb : PPE X b tb Tb) : PPC X (.BinOp a .Add b pos) (tOp (rAddA X.K) ta tb) (pCatO Ta Tb) := ⟨(ppe_add ha hb).pe, fun G F H σ ρ Q R S hT k =>
  ha.snd G F H σ ρ _ _ S hT fun v d F1 H1 ρ1 u1 S1 r1 q1 => hb.snd G F1 H1 σ ρ1 _ _ S1 q1 fun w e F2 H2 ρ2 u2 S2 r2 q2 => by
    have r1' := r1.mono u2.ex
    cases r1' with
    | lst h1 s1 =>
      cases r2 with
      | lst h2 s2 => exact .inr (.inl ⟨_, _, _, _, rfl, rfl, S2.hF _ _ h1, S2.hF _ _ h2, by rw [s1.length, s2.length]; exact q2.1, fun p hp => k _ _ _ _ ρ2 (u1.trans u2) (S2.newOwn hp (s1.append s2)) (q2.2 p)⟩)
      | _ => exact q2.elim
    | _ => exact q2.elim⟩
end
end Pl
namespace Pl
open PySem PySem.Spec PyProof.Rows L2
abbrev N_rises : List Str := [("one" : Str), ("other" : Str), ("here" : Str), ("there" : Str)]
def T_rises : TSp :=
  (pSeq (pIfS (pTest (pOp fNe (pLenO 0) (pLenO 1)))
    pNever
    pNext)
    (pRet (pVal (pCB fTup (pCons (pLc (jZ2 (pCons (pVar 0) (pCons (pVar 1) pNil))) (hTup 2 (hCons (hName 2) (hCons (hName 3) hNil))) pYes (pOp fSub (pVar 3) (pVar 2)) [2, 3]) pNil)))))
abbrev N_gaps : List Str := [("one" : Str), ("other" : Str), ("rise" : Str)]
def T_gaps (g_rises : FA) : TSp :=
  (pRet (pLcO (jSeq (pFrz (pCallA 2 g_rises (pCons (pVar 0) (pCons (pVar 1) pNil))))) (hName 2) pYes (pCB fAbs (pCons (pVar 2) pNil)) [2]))
abbrev N_width : List Str := [("one" : Str), ("other" : Str)]
def T_width (g_gaps : FA) : TSp :=
  (pRet (pVal (pCB (fBest max) (pCons (pFrz (pCallA 2 g_gaps (pCons (pVar 0) (pCons (pVar 1) pNil)))) pNil))))
abbrev N_is_below : List Str := [("one" : Str), ("other" : Str)]
def T_is_below (g_rises : FA) : TSp :=
  (pRet (pVal (pOp fGe (pCB (fBest min) (pCons (pFrz (pCallA 2 g_rises (pCons (pVar 0) (pCons (pVar 1) pNil)))) pNil)) (pC (.int 0)))))
abbrev N_widths : List Str := [("one" : Str), ("other" : Str), ("almanac" : Str), ("here" : Str), ("there" : Str)]
def T_widths (g_days : FA) (g_width : FA) : TSp :=
  (pRet (pLcO (jZ2 (pCons (pFrz (pCallA 2 g_days (pCons (pVar 0) (pCons (pVar 2) pNil)))) (pCons (pFrz (pCallA 2 g_days (pCons (pVar 1) (pCons (pVar 2) pNil)))) pNil))) (hTup 2 (hCons (hName 3) (hCons (hName 4) hNil))) pYes (pFrz (pCallA 2 g_width (pCons (pVar 3) (pCons (pVar 4) pNil)))) [3, 4]))
abbrev N_handed : List Str := [("dune" : Str), ("post" : Str), ("by" : Str), ("at" : Str), ("height" : Str)]
def T_handed : TSp :=
  (pSeq (pIfS (pNot (pTest (pChain fLe fLt (pC (.int 0)) (pVar 1) (pLenO 0))))
    pNever
    pNext)
    (pRet (pVal (pCB fTup (pCons (pLc (jE (pCons (pVar 0) pNil)) (hTup 2 (hCons (hName 3) (hCons (hName 4) hNil))) pYes (pIf (pTest (pOp fEq (pVar 3) (pVar 1))) (pOp fAdd (pVar 4) (pVar 2)) (pVar 4)) [3, 4]) pNil)))))
abbrev N_felt : List Str := [("dune" : Str), ("almanac" : Str), ("post" : Str), ("by" : Str)]
def T_felt (g_handed : FA) (g_behind : FA) (g_rises : FA) : TSp :=
  (pRet (pCallA 2 g_rises (pCons (pFrz (pCallA 2 g_behind (pCons (pVar 0) (pCons (pVar 1) pNil)))) (pCons (pFrz (pCallA 2 g_behind (pCons (pFrz (pCallA 3 g_handed (pCons (pVar 0) (pCons (pVar 2) (pCons (pVar 3) pNil))))) (pCons (pVar 1) pNil)))) pNil))))
abbrev N_almanac_of : List Str := [("cuts" : Str), ("fills" : Str), ("order" : Str), ("winds" : Str), ("cut" : Str), ("fill" : Str), ("sign" : Str)]
def T_almanac_of : TSp :=
  (pSeq (pSet 3 (pLstO pNil))
    (pSeq (pSet 4 (pVal (pC (.int 0))))
    (pSeq (pSet 5 (pVal (pC (.int 0))))
    (pSeq (pFor (jStr (pVar 2)) (hName 6)
    (pIfS (pTest (pOp fEq (pVar 6) (pC (.str "c"))))
    (pSeq (pAppend 3 (pTup (pCons (pC (.str "cut")) (pCons (pIxO 0 (pVar 4)) pNil))))
    (pAugI 4 (fun i j => i + j) (pC (.int 1))))
    (pSeq (pAppend 3 (pTup (pCons (pC (.str "fill")) (pCons (pIxO 1 (pVar 5)) pNil))))
    (pAugI 5 (fun i j => i + j) (pC (.int 1))))))
    (pRet (pMove 3))))))
abbrev N_are_contrary : List Str := [("one" : Str), ("other" : Str), ("of_cut" : Str), ("of_fill" : Str)]
def T_are_contrary : TSp :=
  (pSeq (pIfS (pTest (pOp fEq (pIxO 0 (pC (.int 0))) (pIxO 1 (pC (.int 0)))))
    (pRet (pVal (pC (.bl false))))
    pNext)
    (pSeq (pAsg (pIf (pTest (pOp fEq (pIxO 0 (pC (.int 0))) (pC (.str "cut")))) (pTup (pCons (pVar 0) (pCons (pVar 1) pNil))) (pTup (pCons (pVar 1) (pCons (pVar 0) pNil)))) (hTup 2 (hCons (hName 2) (hCons (hName 3) hNil))))
    (pRet (pVal (pAndV (pOp fLe (pIxO 3 (pC (.int 1))) (pIxO 2 (pC (.int 1)))) (pOp fLe (pIxO 2 (pC (.int 2))) (pIxO 3 (pC (.int 2)))))))))
abbrev N_first_clash : List Str := [("words" : Str), ("one" : Str), ("other" : Str)]
def T_first_clash (g_are_contrary : FA) : TSp :=
  (pSeq (pFor (jRng1 (pCons (pLenO 0) pNil)) (hName 1)
    (pFor (jRng2 (pCons (pOp fAdd (pVar 1) (pC (.int 1))) (pCons (pLenO 0) pNil))) (hName 2)
    (pIfS (pTest (pFrz (pCallA 2 g_are_contrary (pCons (pIxO 0 (pVar 1)) (pCons (pIxO 0 (pVar 2)) pNil)))))
    (pRet (pVal (pTup (pCons (pVar 1) (pCons (pVar 2) pNil)))))
    pNext)))
    (pRet (pVal (pC .non))))
abbrev N_refuse_clash : List Str := [("words" : Str), ("places" : Str)]
def T_refuse_clash (g_first_clash : FA) : TSp :=
  (pSeq (pSet 1 (pCallA 1 g_first_clash (pCons (pVar 0) pNil)))
    (pIfS (pTest (pOp fNotN (pVar 1) (pC .non)))
    pNever
    pNext))
abbrev N_least_ahead : List Str := [("words" : Str), ("fill" : Str), ("word" : Str), ("cut" : Str), ("at" : Str)]
def T_least_ahead : TSp :=
  (pRet (pVal (pDflt max (pLc (jSeq (pVar 0)) (hTup 3 (hCons (hName 2) (hCons (hName 3) (hCons (hName 4) hNil)))) (pAnd (pTest (pOp fEq (pVar 2) (pC (.str "cut")))) (pTest (pOp fLe (pVar 4) (pVar 1)))) (pOp fAdd (pVar 3) (pC (.int 1))) [2, 3, 4]) (pC (.int 0)))))
abbrev N_most_ahead : List Str := [("cuts" : Str), ("words" : Str), ("fill" : Str), ("word" : Str), ("cut" : Str), ("at" : Str)]
def T_most_ahead : TSp :=
  (pRet (pVal (pDflt min (pLc (jSeq (pVar 1)) (hTup 3 (hCons (hName 3) (hCons (hName 4) (hCons (hName 5) hNil)))) (pAnd (pTest (pOp fEq (pVar 3) (pC (.str "fill")))) (pTest (pOp fGe (pVar 5) (pVar 2)))) (pVar 4) [3, 4, 5]) (pLenO 0))))
abbrev N_bounds : List Str := [("cuts" : Str), ("fills" : Str), ("words" : Str), ("fill" : Str)]
def T_bounds (g_refuse_clash : FA) (g_least_ahead : FA) (g_most_ahead : FA) : TSp :=
  (pSeq (pDrop (pFrz (pCallA 1 g_refuse_clash (pCons (pVar 2) pNil))))
    (pRet (pLcO (jRng1 (pCons (pLenO 1) pNil)) (hName 3) pYes (pTup (pCons (pFrz (pCallA 2 g_least_ahead (pCons (pVar 2) (pCons (pVar 3) pNil)))) (pCons (pFrz (pCallA 3 g_most_ahead (pCons (pVar 0) (pCons (pVar 2) (pCons (pVar 3) pNil))))) pNil))) [3])))
abbrev N_ways_on : List Str := [("cuts" : Str), ("fills" : Str), ("words" : Str), ("rows" : Str), ("least" : Str), ("most" : Str)]
def T_ways_on (g_bounds : FA) (g_ways_ahead : FA) : TSp :=
  (pSeq (pSet 3 (pLstO (pCons (pOp fAdd (pOp fRep (pLst (pCons (pC (.int 1)) pNil)) (pOp fAdd (pLenO 0) (pC (.int 1)))) (pLst (pCons (pC (.int 0)) pNil))) pNil)))
    (pSeq (pFor (jSeq (pUn fRev (pFrz (pCallA 3 g_bounds (pCons (pVar 0) (pCons (pVar 1) (pCons (pVar 2) pNil))))))) (hTup 2 (hCons (hName 4) (hCons (hName 5) hNil)))
    (pAppend 3 (pFrz (pCallA 3 g_ways_ahead (pCons (pIxO 3 (pUn fNeg (pC (.int 1)))) (pCons (pVar 4) (pCons (pVar 5) pNil)))))))
    (pRet (pVal (pUn fRev (pVar 3))))))
abbrev N_ways_ahead : List Str := [("later" : Str), ("least" : Str), ("most" : Str), ("row" : Str), ("many" : Str), ("cut" : Str)]
def T_ways_ahead : TSp :=
  (pSeq (pSet 3 (pLstO pNil))
    (pSeq (pSet 4 (pVal (pC (.int 0))))
    (pSeq (pFor (jRev (pLenO 0)) (hName 5)
    (pSeq (pIfS (pTest (pChain fLe fLe (pVar 1) (pVar 5) (pVar 2)))
    (pAugI 4 (fun i j => i + j) (pIxO 0 (pVar 5)))
    pNext)
    (pAppend 3 (pVar 4))))
    (pRet (pVal (pUn fRev (pVar 3)))))))
abbrev N_orders_many : List Str := [("cuts" : Str), ("fills" : Str), ("words" : Str)]
def T_orders_many (g_ways_on : FA) : TSp :=
  (pRet (pVal (pOp fIx (pOp fIx (pFrz (pCallA 3 g_ways_on (pCons (pVar 0) (pCons (pVar 1) (pCons (pVar 2) pNil))))) (pC (.int 0))) (pC (.int 0)))))
abbrev N_order_with : List Str := [("ahead" : Str), ("many" : Str), ("parts" : Str), ("done" : Str), ("cuts" : Str)]
def T_order_with : TSp :=
  (pSeq (pSet 2 (pLstO pNil))
    (pSeq (pSet 3 (pVal (pC (.int 0))))
    (pSeq (pFor (jSeq (pVar 0)) (hName 4)
    (pSeq (pAppend 2 (pOp fAdd (pOp fMulS (pC (.str "c")) (pOp fSub (pVar 4) (pVar 3))) (pC (.str "f"))))
    (pSet 3 (pVal (pVar 4)))))
    (pSeq (pAppend 2 (pOp fMulS (pC (.str "c")) (pOp fSub (pVar 1) (pVar 3))))
    (pRet (pVal (pJoin (pC (.str "")) (pVar 2))))))))
abbrev N_least_order : List Str := [("cuts" : Str), ("fills" : Str), ("words" : Str), ("least" : Str), ("most" : Str)]
def T_least_order (g_bounds : FA) (g_order_with : FA) : TSp :=
  (pRet (pCallA 2 g_order_with (pCons (pLc (jSeq (pFrz (pCallA 3 g_bounds (pCons (pVar 0) (pCons (pVar 1) (pCons (pVar 2) pNil)))))) (hTup 2 (hCons (hName 3) (hCons (hName 4) hNil))) pYes (pVar 4) [3, 4]) (pCons (pLenO 0) pNil))))
abbrev N_greatest_order : List Str := [("cuts" : Str), ("fills" : Str), ("words" : Str), ("least" : Str), ("most" : Str)]
def T_greatest_order (g_bounds : FA) (g_order_with : FA) : TSp :=
  (pRet (pCallA 2 g_order_with (pCons (pLc (jSeq (pFrz (pCallA 3 g_bounds (pCons (pVar 0) (pCons (pVar 1) (pCons (pVar 2) pNil)))))) (hTup 2 (hCons (hName 3) (hCons (hName 4) hNil))) pYes (pVar 3) [3, 4]) (pCons (pLenO 0) pNil))))
abbrev N_may_stand : List Str := [("dune" : Str), ("cuts" : Str), ("fills" : Str), ("words" : Str), ("least" : Str), ("greatest" : Str)]
def T_may_stand (g_behind : FA) (g_almanac_of : FA) (g_least_order : FA) (g_greatest_order : FA) : TSp :=
  (pSeq (pSet 4 (pCallA 3 g_almanac_of (pCons (pVar 1) (pCons (pVar 2) (pCons (pFrz (pCallA 3 g_least_order (pCons (pVar 1) (pCons (pVar 2) (pCons (pVar 3) pNil))))) pNil)))))
    (pSeq (pSet 5 (pCallA 3 g_almanac_of (pCons (pVar 1) (pCons (pVar 2) (pCons (pFrz (pCallA 3 g_greatest_order (pCons (pVar 1) (pCons (pVar 2) (pCons (pVar 3) pNil))))) pNil)))))
    (pRet (pVal (pTup (pCons (pFrz (pCallA 2 g_behind (pCons (pVar 0) (pCons (pVar 4) pNil)))) (pCons (pFrz (pCallA 2 g_behind (pCons (pVar 0) (pCons (pVar 5) pNil)))) pNil)))))))
abbrev N_sure_posts : List Str := [("dune" : Str), ("cuts" : Str), ("fills" : Str), ("words" : Str), ("least" : Str), ("greatest" : Str), ("post" : Str), ("height" : Str)]
def T_sure_posts (g_may_stand : FA) : TSp :=
  (pSeq (pAsg (pFrz (pCallA 4 g_may_stand (pCons (pVar 0) (pCons (pVar 1) (pCons (pVar 2) (pCons (pVar 3) pNil)))))) (hTup 2 (hCons (hName 4) (hCons (hName 5) hNil))))
    (pRet (pLcO (jE (pCons (pVar 4) pNil)) (hTup 2 (hCons (hName 6) (hCons (hName 7) hNil))) (pTest (pOp fEq (pVar 7) (pIxO 5 (pVar 6)))) (pVar 6) [6, 7])))
abbrev N__law_books : List Str := [("_law_box_here" : Str), ("_law_size" : Str), ("_law_cuts" : Str), ("_law_fills" : Str), ("_law_way" : Str), ("_law_slope_here" : Str), ("_law_turn" : Str), ("_law_book" : Str)]
def T__law_books (g__law_take : FB) (g__law_slope : FB) : TSp :=
  (pSeq (pParC3 2 3 4 (pConsC (pLstO pNil) (pConsC (pLstO pNil) (pConsC (pCallB 0 2 g__law_take (pCons (pC (.int 4)) pNil)) pNilC))))
    (pSeq (pIfS (pTest (pOp fEq (pVar 4) (pC (.int 0))))
    (pSeq (pSet 5 (pVal (pOp fAdd (pC (.int 40)) (pFrz (pCallB 0 2 g__law_take (pCons (pC (.int 60)) pNil))))))
    (pSeq (pFor (jRng1 (pCons (pFrz (pCallB 0 2 g__law_take (pCons (pOp fAdd (pOp fMulI (pC (.int 2)) (pVar 1)) (pC (.int 1))) pNil))) pNil)) (hName 6)
    (pSeq (pSet 7 (pVal (pOp fIx (pLst (pCons (pAdr 2) (pCons (pAdr 3) pNil))) (pOp fMod (pOp fAdd (pVar 6) (pOp fMulI (pFrz (pCallB 0 2 g__law_take (pCons (pC (.int 2)) pNil))) (pFrz (pCallB 0 2 g__law_take (pCons (pC (.int 2)) pNil))))) (pC (.int 2))))))
    (pSeq (pAppendA 7 [2, 3] (pVar 5))
    (pSet 5 (pVal (pCB fMax2 (pCons (pC (.int 0)) (pCons (pOp fSub (pOp fSub (pVar 5) (pC (.int 1))) (pFrz (pCallB 0 2 g__law_take (pCons (pC (.int 9)) pNil)))) pNil))))))))
    (pRet (pVal (pTup (pCons (pSl (pVar 2) pNoPart (pPart (pVar 1))) (pCons (pSl (pVar 3) pNoPart (pPart (pVar 1))) pNil)))))))
    pNext)
    (pSeq (pFor (jSeq (pTup (pCons (pAdr 2) (pCons (pAdr 3) pNil)))) (hName 7)
    (pFor (jRng1 (pCons (pFrz (pCallB 0 2 g__law_take (pCons (pOp fAdd (pVar 1) (pC (.int 1))) pNil))) pNil)) (hName 6)
    (pAppendA 7 [2, 3] (pIf (pTest (pOp fLt (pVar 4) (pC (.int 3)))) (pFrz (pCallB 0 1 g__law_slope pNil)) (pFrz (pCallB 0 2 g__law_take (pCons (pC (.int 3)) pNil)))))))
    (pRet (pVal (pTup (pCons (pVar 2) (pCons (pVar 3) pNil))))))))
abbrev N__law_almanac : List Str := [("_law_cuts" : Str), ("_law_fills" : Str), ("_law_order_here" : Str), ("_law_left" : Str), ("_law_right_here" : Str), ("_law_told_here" : Str), ("_law_letter" : Str)]
def T__law_almanac : TSp :=
  (pSeq (pParC3 3 4 5 (pConsC (pLstCO (pCons (pVar 0) pNil)) (pConsC (pLstCO (pCons (pVar 1) pNil)) (pConsC (pLstO pNil) pNilC))))
    (pSeq (pFor (jStr (pVar 2)) (hName 6)
    (pAppend 5 (pIf (pTest (pOp fEq (pVar 6) (pC (.str "c")))) (pTup (pCons (pC (.str "cut")) (pCons (pPop 3 (pC (.int 0))) pNil))) (pTup (pCons (pC (.str "fill")) (pCons (pPop 4 (pC (.int 0))) pNil))))))
    (pRet (pMove 5))))
abbrev N__law_order : List Str := [("_law_box_here" : Str), ("_law_cuts" : Str), ("_law_fills" : Str), ("_law_letters" : Str), ("_law_told_here" : Str), ("_law_turn" : Str)]
def T__law_order (g__law_take : FB) : TSp :=
  (pSeq (pParC 3 4 (pConsC (pCatO (pOp fRep (pLst (pCons (pC (.str "c")) pNil)) (pVar 1)) (pOp fRep (pLst (pCons (pC (.str "f")) pNil)) (pVar 2))) (pConsC (pVal (pC (.str ""))) pNilC)))
    (pSeq (pFor (jRng1 (pCons (pOp fAdd (pVar 1) (pVar 2)) pNil)) (hName 5)
    (pSet 4 (pVal (pOp fAdd (pVar 4) (pPop 3 (pFrz (pCallB 0 2 g__law_take (pCons (pLenO 3) pNil))))))))
    (pRet (pMove 4))))
abbrev N__law_has : List Str := [("_law_order_here" : Str), ("_law_word" : Str), ("_law_kind" : Str), ("_law_cut" : Str), ("_law_fill" : Str), ("_law_k" : Str), ("_law_letter" : Str), ("_law_spots" : Str), ("_law_others" : Str)]
def T__law_has : TSp :=
  (pSeq (pAsg (pVar 1) (hTup 3 (hCons (hName 2) (hCons (hName 3) (hCons (hName 4) hNil)))))
    (pSeq (pSet 7 (pVal (pLc (jES (pCons (pVar 0) pNil)) (hTup 2 (hCons (hName 5) (hCons (hName 6) hNil))) (pTest (pOp fEq (pVar 6) (pC (.str "c")))) (pVar 5) [5, 6])))
    (pSeq (pSet 8 (pVal (pLc (jES (pCons (pVar 0) pNil)) (hTup 2 (hCons (hName 5) (hCons (hName 6) hNil))) (pTest (pOp fEq (pVar 6) (pC (.str "f")))) (pVar 5) [5, 6])))
    (pRet (pVal (pOp fEq (pOp fLt (pIxO 7 (pVar 3)) (pIxO 8 (pVar 4))) (pOp fEq (pVar 2) (pC (.str "cut")))))))))
abbrev N__law_words : List Str := [("_law_box_here" : Str), ("_law_order_here" : Str), ("_law_size" : Str), ("_law_cuts" : Str), ("_law_fills" : Str), ("_law_told_here" : Str), ("_law_astray" : Str), ("_law_turn" : Str), ("_law_word" : Str)]
def T__law_words (g__law_take : FB) (g__law_has : FA) : TSp :=
  (pSeq (pPar 3 4 (pCons (pCount (pVar 1) (pC (.str "c"))) (pCons (pCount (pVar 1) (pC (.str "f"))) pNil)))
    (pSeq (pParC 5 6 (pConsC (pLstO pNil) (pConsC (pVal (pOp fEq (pFrz (pCallB 0 2 g__law_take (pCons (pC (.int 3)) pNil))) (pC (.int 0)))) pNilC)))
    (pSeq (pFor (jRng1 (pCons (pOp fMulI (pFrz (pCallB 0 2 g__law_take (pCons (pOp fAdd (pVar 2) (pC (.int 1))) pNil))) (pCB fInt1 (pCons (pAndV (pOp fGt (pVar 3) (pC (.int 0))) (pOp fGt (pVar 4) (pC (.int 0)))) pNil))) pNil)) (hName 7)
    (pSeq (pSet 8 (pVal (pTup (pCons (pC (.str "cut")) (pCons (pFrz (pCallB 0 2 g__law_take (pCons (pVar 3) pNil))) (pCons (pFrz (pCallB 0 2 g__law_take (pCons (pVar 4) pNil))) pNil))))))
    (pSeq (pIfS (pOr (pNot (pTest (pFrz (pCallA 2 g__law_has (pCons (pVar 1) (pCons (pVar 8) pNil)))))) (pAnd (pTest (pVar 6)) (pTest (pOp fEq (pFrz (pCallB 0 2 g__law_take (pCons (pC (.int 4)) pNil))) (pC (.int 0))))))
    (pSet 8 (pVal (pTup (pCons (pC (.str "fill")) (pCons (pIxO 8 (pC (.int 1))) (pCons (pIxO 8 (pC (.int 2))) pNil))))))
    pNext)
    (pAppend 5 (pVar 8)))))
    (pRet (pMove 5)))))
end Pl
namespace Pl
open PySem PySem.Spec PyProof.Rows L2
/-! ### two dunes beside each other -/
def difL (a b : List Int) : List Int := List.zipWith (fun x y => y - x) a b
def widL (a b : List Int) : Int := maxOf ((difL a b).map iabs)
theorem difL_len {a b : List Int} (h : a.length = b.length) : (difL a b).length = a.length := by unfold difL; simp; omega
theorem difL_ne {a b : List Int} (h : a.length = b.length) (hne : a ≠ []) : difL a b ≠ [] := ne_len (difL_len h) hne
def g_rises : FA := fun ds C => ∃ d a e b, ds = [d, e] ∧ Sq d a ∧ Sq e b ∧ a.length = b.length ∧ a.length ≤ 1000 ∧ C (.val (tD (difL a b)))
theorem rd_rises : ∀ ds C, ds.length = 2 → g_rises ds C → T_rises { nx := fun _ => C (.val .non), rt := fun c _ => C c } (startA N_rises ds) := by
  rintro ds C - ⟨d, a, e, b, rfl, hd, he, hl, ha, hC⟩
  have key : lcW [2, 3] (hTup 2 (hCons (hName 2) (hCons (hName 3) hNil))) pYes (pOp fSub (pVar 3) (pVar 2)) (fun acc ρ2 => C (.val (.tup acc))) (zipD (dI a) (dI b)) [] [some (.val d), some (.val e), none, none] := by
    refine lcW_z2 (h := fun x y => .int (y - x)) (fun x _ y _ K hK => ⟨rfl, rfl, hK _ rfl⟩) ha ?_
    rw [zip_int]; exact hC
  have hb : (!(D.int ((dI a).length : Nat)).eqv (.int ((dI b).length : Nat))) = false := by rw [eqv_int, ints_len, ints_len, hl]; simp
  rcases hd with rfl | rfl <;> rcases he with rfl | rfl <;> exact ⟨sh_int _, sh_int _, ifF hb key⟩
def g_gaps : FA := fun ds C => ∃ d a e b, ds = [d, e] ∧ Sq d a ∧ Sq e b ∧ a.length = b.length ∧ a.length ≤ 1000 ∧ ∀ p, C (.own p (dI ((difL a b).map iabs)))
theorem rd_gaps : ∀ ds C, ds.length = 2 → g_gaps ds C → T_gaps g_rises { nx := fun _ => C (.val .non), rt := fun c _ => C c } (startA N_gaps ds) := by
  rintro ds C - ⟨d, a, e, b, rfl, hd, he, hl, ha, hC⟩
  refine ⟨rfl, d, a, e, b, rfl, hd, he, hl, ha, ?_⟩
  refine lcW_ints (h := fun x => .int (iabs x)) (fun x _ K hK => hK _ rfl) (by rw [difL_len hl]; exact ha) fun p => ?_
  have := hC p
  unfold dI at this
  rw [List.map_map] at this
  exact this
def g_width : FA := fun ds C => ∃ d a e b, ds = [d, e] ∧ Sq d a ∧ Sq e b ∧ a.length = b.length ∧ a ≠ [] ∧ a.length ≤ 1000 ∧ C (.val (.int (widL a b)))
theorem rd_width : ∀ ds C, ds.length = 2 → g_width ds C → T_width g_gaps { nx := fun _ => C (.val .non), rt := fun c _ => C c } (startA N_width ds) := by
  rintro ds C - ⟨d, a, e, b, rfl, hd, he, hl, hne, ha, hC⟩
  refine ⟨rfl, d, a, e, b, rfl, hd, he, hl, ha, fun p => ?_⟩
  obtain ⟨n, r, h1, h2⟩ := maxOf_cons (l := (difL a b).map iabs) (map_ne (difL_ne hl hne))
  refine ⟨n, r, by rw [h1], ?_⟩
  rw [← h2]; exact hC
def g_is_below : FA := fun ds C => ∃ d a e b, ds = [d, e] ∧ Sq d a ∧ Sq e b ∧ a.length = b.length ∧ a ≠ [] ∧ a.length ≤ 1000 ∧ C (.val (.bl (decide (0 ≤ minOf (difL a b)))))
theorem rd_is_below : ∀ ds C, ds.length = 2 → g_is_below ds C → T_is_below g_rises { nx := fun _ => C (.val .non), rt := fun c _ => C c } (startA N_is_below ds) := by
  rintro ds C - ⟨d, a, e, b, rfl, hd, he, hl, hne, ha, hC⟩
  refine ⟨rfl, d, a, e, b, rfl, hd, he, hl, ha, ?_⟩
  obtain ⟨n, r, h1, h2⟩ := minOf_cons (l := difL a b) (difL_ne hl hne)
  refine ⟨n, r, by rw [h1], ?_⟩
  rw [← h2]; exact hC
theorem below_lq {a b : List Int} (h : Lq a b) (hne : a ≠ []) : decide (0 ≤ minOf (difL a b)) = true := decide_eq_true (le_minOf (difL_ne h.length hne) (diff_nonneg h))
def widsL (a b : List Int) (ws : List Wd) : List Int := List.zipWith widL (daysL a ws) (daysL b ws)
theorem zipD_rows : ∀ (p q : List (List Int)), zipD (p.map tD) (q.map tD) = List.zipWith (fun x y => .tup [tD x, tD y]) p q
  | [], _ => rfl
  | _ :: _, [] => rfl
  | x :: a, y :: b => by
    show D.tup [tD x, tD y] :: zipD (a.map tD) (b.map tD) = _
    rw [zipD_rows a b]; rfl
theorem lcW_zr {vs : List Nat} {g : TGp} {te : TEp} {Q : List D → Ro → Prop} {h : List Int → List Int → D} {ρ : Ro} : ∀ (p q : List (List Int)) (acc : List D), (∀ x ∈ p, ∀ y ∈ q, ElemOk vs g te ρ (.tup [tD x, tD y]) (h x y)) → acc.length + p.length ≤ 1000 → Q (acc ++ List.zipWith h p q) ρ → lcW vs g pYes te Q (zipD (p.map tD) (q.map tD)) acc ρ
  | [], q, acc, _, _, hQ => by
    have hQ : Q (acc ++ []) ρ := hQ
    rw [List.append_nil] at hQ
    exact hQ
  | x :: p, [], acc, _, _, hQ => by
    have hQ : Q (acc ++ []) ρ := hQ
    rw [List.append_nil] at hQ
    exact hQ
  | x :: p, y :: q, acc, hs, hl, hQ => by
    have hl' : acc.length + (p.length + 1) ≤ 1000 := hl
    refine hs x (by simp) y (by simp) _ fun ρ4 e => ⟨small1000 (by omega), ?_⟩
    rw [e]
    refine lcW_zr (h := h) p q _ (fun u hu v hv => hs u (by simp [hu]) v (by simp [hv])) (by rw [List.length_append]; show acc.length + 1 + p.length ≤ 1000; omega) ?_
    rw [List.append_assoc]
    exact hQ
theorem daysL_mem : ∀ {ws : List Wd} {l r : List Int}, r ∈ daysL l ws → r.length = l.length
  | [], l, r, h => by
    have h : r ∈ [l] := h
    rw [List.mem_singleton.mp h]
  | w :: ws, l, r, h => by
    have h : r ∈ l :: daysL (blW l w) ws := h
    rcases List.mem_cons.mp h with e | h
    · rw [e]
    · rw [daysL_mem h, blW_len]
theorem zip_intL {f : List Int → List Int → Int} : ∀ {a b : List (List Int)}, List.zipWith (fun x y => D.int (f x y)) a b = dI (List.zipWith f a b)
  | [], _ => rfl
  | _ :: _, [] => rfl
  | x :: a, y :: b => by
    show D.int (f x y) :: List.zipWith (fun x y => D.int (f x y)) a b = D.int (f x y) :: dI (List.zipWith f a b)
    rw [zip_intL]
def g_widths : FA := fun ds C => ∃ d a e b am ws, ds = [d, e, am] ∧ Sq d a ∧ Sq e b ∧ Am am ws ∧ a.length = b.length ∧ a ≠ [] ∧ a.length ≤ 1000 ∧ ws.length ≤ 900 ∧ ∀ p, C (.own p (dI (widsL a b ws)))
theorem rd_widths : ∀ ds C, ds.length = 3 → g_widths ds C → T_widths g_days g_width { nx := fun _ => C (.val .non), rt := fun c _ => C c } (startA N_widths ds) := by
  rintro ds C - ⟨d, a, e, b, am, ws, rfl, hd, he, hm, hl, hne, ha, hw, hC⟩
  have hne' : b ≠ [] := ne_len hl.symm hne
  refine ⟨rfl, d, a, am, ws, rfl, hd, hm, hne, ha, hw, fun p => ?_⟩
  refine ⟨rfl, e, b, am, ws, rfl, he, hm, hne', by omega, hw, fun q => ?_⟩
  refine lcW_zr (h := fun x y => .int (widL x y)) (daysL a ws) (daysL b ws) [] (fun x hx y hy K hK => ⟨rfl, rfl, rfl, _, x, _, y, rfl, .inl rfl, .inl rfl, ?_, ?_, ?_, hK _ rfl⟩) (by rw [daysL_len]; show 0 + (ws.length + 1) ≤ 1000; omega) fun r => ?_
  · rw [daysL_mem hx, daysL_mem hy, hl]
  · exact ne_len (daysL_mem hx) hne
  · rw [daysL_mem hx]; exact ha
  · rw [List.nil_append, zip_intL]; exact hC r
/-! ### widths never rise -/
theorem wid_near : ∀ {a b : List Int} {c : Int}, (∀ t ∈ (difL a b).map iabs, t ≤ c) → a.length = b.length → Lq (a.map fun x => x + -c) b ∧ Lq b (a.map fun x => x + c)
  | [], [], _, _, _ => ⟨trivial, trivial⟩
  | x :: a, y :: b, c, h, hl => by
    have h0 : iabs (y - x) ≤ c := h _ (by simp [difL])
    have h1 := wid_near (a := a) (b := b) (c := c) (fun t ht => h t (by
      show t ∈ iabs (y - x) :: (difL a b).map iabs
      simp [ht])) (by simpa using hl)
    unfold iabs at h0
    refine ⟨⟨?_, h1.1⟩, ⟨?_, h1.2⟩⟩
    · show x + -c ≤ y; split at h0 <;> omega
    · show y ≤ x + c; split at h0 <;> omega
  | [], _ :: _, _, _, hl => by simp at hl
  | _ :: _, [], _, _, hl => by simp at hl
theorem near_wid : ∀ {a b : List Int} {c : Int}, Lq (a.map fun x => x + -c) b → Lq b (a.map fun x => x + c) → ∀ t ∈ (difL a b).map iabs, t ≤ c
  | [], [], _, _, _, t, h => by simp [difL] at h
  | x :: a, y :: b, c, h1, h2, t, h => by
    have h : t ∈ iabs (y - x) :: (difL a b).map iabs := h
    have e1 : x + -c ≤ y := h1.1
    have e2 : y ≤ x + c := h2.1
    rcases List.mem_cons.mp h with e | h
    · rw [e]; unfold iabs; split <;> omega
    · exact near_wid h1.2 h2.2 t h
  | [], _ :: _, _, h, _, _, _ => h.elim
  | _ :: _, [], _, h, _, _, _ => h.elim
theorem widL_le {a b : List Int} {c : Int} (hl : a.length = b.length) (hne : a ≠ []) : widL a b ≤ c ↔ Lq (a.map fun x => x + -c) b ∧ Lq b (a.map fun x => x + c) := by
  refine ⟨fun h => wid_near (fun t ht => Int.le_trans (le_maxOf ht) h) hl, fun h => maxOf_le (map_ne (difL_ne hl hne)) (near_wid h.1 h.2)⟩
theorem widL_blW {a b : List Int} {w : Wd} (hw : 0 ≤ w.2) (hl : a.length = b.length) (hne : a ≠ []) : widL (blW a w) (blW b w) ≤ widL a b := by
  obtain ⟨h1, h2⟩ := (widL_le hl hne).mp (Int.le_refl (widL a b))
  refine (widL_le (by rw [blW_len, blW_len, hl]) (blW_ne hne w)).mpr ⟨?_, ?_⟩
  · have := blown_mono (c := w.1) hw h1
    rw [blown_shift hw] at this
    exact this
  · have := blown_mono (c := w.1) hw h2
    rw [blown_shift hw] at this
    exact this
theorem widL_behind : ∀ {ws : List Wd} {a b : List Int}, (∀ w ∈ ws, 0 ≤ w.2) → a.length = b.length → a ≠ [] → widL (behindL a ws) (behindL b ws) ≤ widL a b
  | [], a, b, _, _, _ => Int.le_refl _
  | w :: ws, a, b, hw, hl, hne => Int.le_trans (widL_behind (ws := ws) (fun v hv => hw v (by simp [hv])) (by rw [blW_len, blW_len, hl]) (blW_ne hne w)) (widL_blW (hw w (by simp)) hl hne)
theorem widsL_len (a b : List Int) (ws : List Wd) : (widsL a b ws).length = ws.length + 1 := by unfold widsL; simp [daysL_len]
theorem widsL_cons (a b : List Int) (w : Wd) (ws : List Wd) : widsL a b (w :: ws) = widL a b :: widsL (blW a w) (blW b w) ws := rfl
theorem widsL_head : ∀ (ws : List Wd) (a b : List Int), ∃ r, widsL a b ws = widL a b :: r
  | [], _, _ => ⟨_, rfl⟩
  | _ :: _, _, _ => ⟨_, rfl⟩
theorem widsL_last : ∀ (ws : List Wd) (a b : List Int), ∃ r, widsL a b ws = r ++ [widL (behindL a ws) (behindL b ws)]
  | [], _, _ => ⟨[], rfl⟩
  | w :: ws, a, b => by
    obtain ⟨r, e⟩ := widsL_last ws (blW a w) (blW b w)
    exact ⟨widL a b :: r, by rw [widsL_cons, e]; rfl⟩
theorem widsL_fall : ∀ {ws : List Wd} {a b : List Int}, (∀ w ∈ ws, 0 ≤ w.2) → a.length = b.length → a ≠ [] → (List.zipWith (fun x y => decide (x < y)) (widsL a b ws) ((widsL a b ws).drop 1)).any id = false
  | [], _, _, _, _, _ => rfl
  | w :: ws, a, b, hw, hl, hne => by
    obtain ⟨r, e⟩ := widsL_head ws (blW a w) (blW b w)
    have ih := widsL_fall (ws := ws) (a := blW a w) (b := blW b w) (fun v hv => hw v (by simp [hv])) (by rw [blW_len, blW_len, hl]) (blW_ne hne w)
    rw [widsL_cons]
    rw [e] at ih ⊢
    have h := widL_blW (w := w) (hw w (by simp)) hl hne
    show (decide (widL a b < widL (blW a w) (blW b w)) || (List.zipWith (fun x y => decide (x < y)) (widL (blW a w) (blW b w) :: r) r).any id) = false
    have ih : (List.zipWith (fun x y => decide (x < y)) (widL (blW a w) (blW b w) :: r) r).any id = false := ih
    rw [ih, decide_eq_false (by omega)]; rfl
/-! ### the lower and the higher of both -/
def lowL (a b : List Int) : List Int := List.zipWith min a b
def higL (a b : List Int) : List Int := List.zipWith max a b
theorem low_le : ∀ {a b : List Int}, a.length = b.length → Lq (lowL a b) a ∧ Lq (lowL a b) b
  | [], [], _ => ⟨trivial, trivial⟩
  | x :: a, y :: b, h => by
    have ih := low_le (a := a) (b := b) (by simpa using h)
    exact ⟨⟨by show min x y ≤ x; omega, ih.1⟩, ⟨by show min x y ≤ y; omega, ih.2⟩⟩
  | [], _ :: _, h => by simp at h
  | _ :: _, [], h => by simp at h
theorem hig_ge : ∀ {a b : List Int}, a.length = b.length → Lq a (higL a b) ∧ Lq b (higL a b)
  | [], [], _ => ⟨trivial, trivial⟩
  | x :: a, y :: b, h => by
    have ih := hig_ge (a := a) (b := b) (by simpa using h)
    exact ⟨⟨by show x ≤ max x y; omega, ih.1⟩, ⟨by show y ≤ max x y; omega, ih.2⟩⟩
  | [], _ :: _, h => by simp at h
  | _ :: _, [], h => by simp at h
theorem low_near : ∀ {a b : List Int} {c : Int}, Lq (a.map fun x => x + -c) b → Lq b (a.map fun x => x + c) → Lq ((lowL a b).map fun x => x + -c) (higL a b) ∧ Lq (higL a b) ((lowL a b).map fun x => x + c)
  | [], [], _, _, _ => ⟨trivial, trivial⟩
  | x :: a, y :: b, c, h1, h2 => by
    have e1 : x + -c ≤ y := h1.1
    have e2 : y ≤ x + c := h2.1
    have ih := low_near (a := a) (b := b) (c := c) h1.2 h2.2
    exact ⟨⟨by show min x y + -c ≤ max x y; omega, ih.1⟩, ⟨by show max x y ≤ min x y + c; omega, ih.2⟩⟩
  | [], _ :: _, _, h, _ => h.elim
  | _ :: _, [], _, h, _ => h.elim
theorem lowL_len {a b : List Int} (h : a.length = b.length) : (lowL a b).length = a.length := by unfold lowL; simp; omega
theorem higL_len {a b : List Int} (h : a.length = b.length) : (higL a b).length = a.length := by unfold higL; simp; omega
theorem wid_low {a b : List Int} (hl : a.length = b.length) (hne : a ≠ []) : widL (lowL a b) (higL a b) ≤ widL a b := by
  obtain ⟨h1, h2⟩ := (widL_le hl hne).mp (Int.le_refl (widL a b))
  obtain ⟨g1, g2⟩ := low_near h1 h2
  exact (widL_le (by rw [lowL_len hl, higL_len hl]) (ne_len (lowL_len hl) hne)).mpr ⟨g1, g2⟩
end Pl
namespace Pl
open PySem PySem.Spec PyProof.Rows L2
/-! ### comprehensions that draw -/
def All2 (Pd : D → Int → Prop) : List D → List Int → Prop
  | [], [] => True
  | d :: ds, y :: ys => Pd d y ∧ All2 Pd ds ys
  | _, _ => False
theorem All2.length {Pd : D → Int → Prop} : ∀ {ds : List D} {ys : List Int}, All2 Pd ds ys → ys.length = ds.length
  | [], [], _ => rfl
  | _ :: ds, _ :: ys, h => by simp [All2.length h.2]
  | [], _ :: _, h => h.elim
  | _ :: _, [], h => h.elim
theorem All2.mem {Pd : D → Int → Prop} : ∀ {ds : List D} {ys : List Int} {y : Int}, All2 Pd ds ys → y ∈ ys → ∃ d ∈ ds, Pd d y
  | [], [], _, _, h => by simp at h
  | d :: ds, z :: ys, y, h, hy => by
    rcases List.mem_cons.mp hy with e | hy
    · subst e; exact ⟨d, by simp, h.1⟩
    · obtain ⟨e, he, p⟩ := All2.mem h.2 hy
      exact ⟨e, by simp [he], p⟩
  | [], _ :: _, _, h, _ => h.elim
  | _ :: _, [], _, h, _ => h.elim
theorem lcW_draw {vs : List Nat} {g : TGp} {te : TEp} {Q : List D → Ro → Prop} (ρf : List D → Ro) (k N : Nat) (Pre : D → Prop) (Pd : D → Int → Prop)
    (hs : ∀ (d : D) (zs : List D) (n : Nat) (K : D → Ro → Prop), Pre d → Bx n zs → n ≤ N → (∀ (y : Int) (zs' : List D) (ρ4 : Ro), Bx (n + k) zs' → Pd d y → restore (ρf zs) ρ4 vs = ρf zs' → K (.int y) ρ4) → g d (wipeP (ρf zs) vs) fun ρ2 => te ρ2 K) :
    ∀ (ds acc : List D) (n : Nat) (zs : List D), Bx n zs → n + k * ds.length ≤ N → (∀ d ∈ ds, Pre d) → acc.length + ds.length ≤ 1000 → (∀ (out : List Int) (zs' : List D), All2 Pd ds out → Bx (n + k * ds.length) zs' → Q (acc ++ dI out) (ρf zs')) → lcW vs g pYes te Q ds acc (ρf zs)
  | [], acc, n, zs, hB, hn, _, _, hQ => by
    have hQ : Q (acc ++ []) (ρf zs) := hQ [] zs trivial hB
    rw [List.append_nil] at hQ
    exact hQ
  | d :: ds, acc, n, zs, hB, hn, hp, hl, hQ => by
    have hl' : acc.length + (ds.length + 1) ≤ 1000 := hl
    have e1 : k * (d :: ds).length = k + k * ds.length := by rw [List.length_cons, Nat.mul_add, Nat.mul_one]; omega
    rw [e1] at hn hQ
    refine hs d zs n _ (hp d (by simp)) hB (by omega) fun y zs' ρ4 hB' hy e => ⟨small1000 (by omega), ?_⟩
    rw [e]
    refine lcW_draw ρf k N Pre Pd hs ds _ (n + k) zs' hB' (by omega) (fun x hx => hp x (by simp [hx])) (by rw [List.length_append]; show acc.length + 1 + ds.length ≤ 1000; omega) fun out zs2 ho hB2 => ?_
    rw [List.append_assoc]
    exact hQ (y :: out) zs2 ⟨hy, ho⟩ (by rw [← Nat.add_assoc]; exact hB2)
theorem Bx.le {n m : Nat} {xs : List D} (h : Bx n xs) (hm : n ≤ m) : Bx m xs := h.mono hm
end Pl
namespace Pl
open PySem PySem.Spec PyProof.Rows L2
/-! ### a hand -/
def handL (v : Int) : Nat → List Int → List Int
  | _, [] => []
  | 0, x :: r => (x + v) :: r
  | q + 1, x :: r => x :: handL v q r
theorem handL_len (v : Int) : ∀ (q : Nat) (l : List Int), (handL v q l).length = l.length
  | _, [] => by cases ‹Nat› <;> rfl
  | 0, _ :: _ => rfl
  | q + 1, x :: r => by simp [handL, handL_len v q r]
/-- walked with its numbers -/
theorem lcW_enumI {vs : List Nat} {g : TGp} {te : TEp} {Q : List D → Ro → Prop} {h : Nat → Int → D} {ρ : Ro} : ∀ (l : List Int) (k : Nat) (acc : List D), (∀ i x, l[i]? = some x → ElemOk vs g te ρ (.tup [.int ((k + i : Nat) : Int), .int x]) (h (k + i) x)) → acc.length + l.length ≤ 1000 → Q (acc ++ (enumFrom h k l)) ρ → lcW vs g pYes te Q (enumD k (dI l)) acc ρ
  | [], k, acc, _, _, hQ => by
    have hQ : Q (acc ++ []) ρ := hQ
    rw [List.append_nil] at hQ
    exact hQ
  | x :: l, k, acc, hs, hl, hQ => by
    have hl' : acc.length + (l.length + 1) ≤ 1000 := hl
    refine hs 0 x rfl _ fun ρ4 e => ⟨small1000 (by omega), ?_⟩
    rw [e]
    refine lcW_enumI (h := h) l (k + 1) _ (fun i y hy => ?_) (by rw [List.length_append]; show acc.length + 1 + l.length ≤ 1000; omega) ?_
    · have := hs (i + 1) y (by simpa using hy)
      rw [show k + (i + 1) = k + 1 + i by omega] at this
      exact this
    · rw [List.append_assoc]
      exact hQ
theorem enum_id (f : Nat → Int → Int) (hf : ∀ k x, f k x = x) : ∀ (l : List Int) (k : Nat), enumFrom (fun k x => D.int (f k x)) k l = dI l
  | [], _ => rfl
  | x :: l, k => by
    show D.int (f k x) :: enumFrom _ (k + 1) l = D.int x :: dI l
    rw [hf, enum_id f hf l]
theorem enum_hand (v : Int) : ∀ (l : List Int) (k q : Nat), enumFrom (fun j x => D.int (if ((j : Nat) : Int) = ((k + q : Nat) : Int) then x + v else x)) k l = dI (handL v q l)
  | [], _, q => by cases q <;> rfl
  | x :: l, k, 0 => by
    show D.int (if ((k : Nat) : Int) = ((k + 0 : Nat) : Int) then x + v else x) :: enumFrom _ (k + 1) l = D.int (x + v) :: dI l
    rw [if_pos (by omega)]
    congr 1
    have : ∀ (l : List Int) (m : Nat), k < m → enumFrom (fun (j : Nat) x => D.int (if ((j : Nat) : Int) = ((k + 0 : Nat) : Int) then x + v else x)) m l = dI l := by
      intro l
      induction l with
      | nil => intro m _; rfl
      | cons y l ih =>
        intro m hm
        show D.int (if ((m : Nat) : Int) = ((k + 0 : Nat) : Int) then y + v else y) :: enumFrom _ (m + 1) l = D.int y :: dI l
        rw [if_neg (by omega), ih (m + 1) (by omega)]
    exact this l (k + 1) (by omega)
  | x :: l, k, q + 1 => by
    show D.int (if ((k : Nat) : Int) = ((k + (q + 1) : Nat) : Int) then x + v else x) :: enumFrom _ (k + 1) l = D.int x :: dI (handL v q l)
    rw [if_neg (by omega), ← enum_hand v l (k + 1) q, show k + (q + 1) = k + 1 + q by omega]
def g_handed : FA := fun ds C => ∃ d ns q v, ds = [d, .int ((q : Nat) : Int), .int v] ∧ Sq d ns ∧ q < ns.length ∧ ns.length ≤ 1000 ∧ C (.val (tD (handL v q ns)))
theorem rd_handed : ∀ ds C, ds.length = 3 → g_handed ds C → T_handed { nx := fun _ => C (.val .non), rt := fun c _ => C c } (startA N_handed ds) := by
  rintro ds C - ⟨d, ns, q, v, rfl, hd, hq, hl, hC⟩
  have key : lcW [3, 4] (hTup 2 (hCons (hName 3) (hCons (hName 4) hNil))) pYes (pIf (pTest (pOp fEq (pVar 3) (pVar 1))) (pOp fAdd (pVar 4) (pVar 2)) (pVar 4)) (fun acc ρ2 => C (.val (.tup acc))) (enumD 0 (dI ns)) [] [some (.val d), some (.val (.int (q : Int))), some (.val (.int v)), none, none] := by
    refine lcW_enumI (h := fun j x => .int (if ((j : Nat) : Int) = ((0 + q : Nat) : Int) then x + v else x)) ns 0 [] (fun i x hx K hK => ?_) (by simpa using hl) ?_
    · refine ⟨rfl, rfl, sh_int _, sh_int _, ?_⟩
      have e : ((D.int ((0 + i : Nat) : Int)).eqv (.int (q : Int))) = decide (((0 + i : Nat) : Int) = ((0 + q : Nat) : Int)) := by rw [eqv_int, Nat.zero_add q]; rfl
      refine ifB (fun h => ?_) (fun h => ?_)
      · rw [e] at h; have := hK; rw [if_pos (dT h)] at this; exact this _ rfl
      · rw [e] at h; have := hK; rw [if_neg (dF h)] at this; exact this _ rfl
    · rw [List.nil_append, enum_hand]; exact hC
  have b : ((q : Int) < ((dI ns).length : Nat)) := by rw [ints_len]; omega
  rcases hd with rfl | rfl
  · exact ifF (by rw [decide_eq_true b]; rfl) key
  · exact ifF (by rw [decide_eq_true b]; rfl) key
def feltL (ns : List Int) (ws : List Wd) (q : Nat) (v : Int) : List Int := difL (behindL ns ws) (behindL (handL v q ns) ws)
theorem feltL_len (ns : List Int) (ws : List Wd) (q : Nat) (v : Int) : (feltL ns ws q v).length = ns.length := by
  unfold feltL; rw [difL_len (by rw [behindL_len, behindL_len, handL_len]), behindL_len]
def g_felt : FA := fun ds C => ∃ d ns am ws q v, ds = [d, am, .int ((q : Nat) : Int), .int v] ∧ Sq d ns ∧ Am am ws ∧ ns ≠ [] ∧ q < ns.length ∧ ns.length ≤ 1000 ∧ ws.length ≤ 900 ∧ C (.val (tD (feltL ns ws q v)))
theorem rd_felt : ∀ ds C, ds.length = 4 → g_felt ds C → T_felt g_handed g_behind g_rises { nx := fun _ => C (.val .non), rt := fun c _ => C c } (startA N_felt ds) := by
  rintro ds C - ⟨d, ns, am, ws, q, v, rfl, hd, ha, hne, hq, hl, hw, hC⟩
  refine ⟨rfl, d, ns, am, ws, rfl, hd, ha, hne, hl, hw, ?_⟩
  refine ⟨rfl, d, ns, q, v, rfl, hd, hq, hl, ?_⟩
  refine ⟨rfl, _, handL v q ns, am, ws, rfl, .inl rfl, ha, ne_len (handL_len v q ns) hne, by rw [handL_len]; exact hl, hw, ?_⟩
  exact ⟨rfl, _, behindL ns ws, _, behindL (handL v q ns) ws, rfl, .inl rfl, .inl rfl, by rw [behindL_len, behindL_len, handL_len], by rw [behindL_len]; exact hl, hC⟩
/-! ### what is felt -/
theorem hand_ge {v : Int} (h0 : 0 ≤ v) : ∀ (q : Nat) (l : List Int), Lq l (handL v q l)
  | q, [] => by cases q <;> exact trivial
  | 0, x :: r => ⟨by show x ≤ x + v; omega, Lq.refl r⟩
  | q + 1, x :: r => ⟨Int.le_refl x, hand_ge h0 q r⟩
theorem hand_le {v : Int} (h0 : 0 ≤ v) : ∀ (q : Nat) (l : List Int), Lq (handL v q l) (l.map fun x => x + v)
  | q, [] => by cases q <;> exact trivial
  | 0, x :: r => ⟨by show x + v ≤ x + v; omega, by
      show Lq r (r.map fun x => x + v)
      have := lq_shift (c := v) (Lq.refl r)
      clear this
      induction r with
      | nil => trivial
      | cons y r ih => exact ⟨by show y ≤ y + v; omega, ih⟩⟩
  | q + 1, x :: r => ⟨by show x ≤ x + v; omega, hand_le h0 q r⟩
theorem hand_hand (v u : Int) : ∀ (q : Nat) (l : List Int), handL u q (handL v q l) = handL (v + u) q l
  | q, [] => by cases q <;> rfl
  | 0, x :: r => by show (x + v + u) :: r = (x + (v + u)) :: r; rw [Int.add_assoc]
  | q + 1, x :: r => by show x :: handL u q (handL v q r) = x :: handL (v + u) q r; rw [hand_hand v u q r]
theorem hand_snoc (v y : Int) : ∀ (q : Nat) (l : List Int), q < l.length → handL v q (l ++ [y]) = handL v q l ++ [y]
  | _, [], h => by simp at h
  | 0, x :: r, _ => rfl
  | q + 1, x :: r, h => by
    show x :: handL v q (r ++ [y]) = x :: (handL v q r ++ [y])
    rw [hand_snoc v y q r (by simpa using h)]
theorem hand_last (v y : Int) : ∀ (l : List Int), handL v l.length (l ++ [y]) = l ++ [y + v]
  | [] => rfl
  | x :: r => by show x :: handL v r.length (r ++ [y]) = x :: (r ++ [y + v]); rw [hand_last v y r]
theorem hand_reverse (v : Int) : ∀ (l : List Int) (q : Nat), q < l.length → handL v (l.length - 1 - q) l.reverse = (handL v q l).reverse
  | [], _, h => by simp at h
  | x :: r, 0, _ => by
    rw [List.reverse_cons]
    have := hand_last v x r.reverse
    rw [List.length_reverse] at this
    show handL v (r.length + 1 - 1 - 0) (r.reverse ++ [x]) = ((x + v) :: r).reverse
    rw [show r.length + 1 - 1 - 0 = r.length by omega, this, List.reverse_cons]
  | x :: r, q + 1, h => by
    have hq : q < r.length := by simpa using h
    show handL v (r.length + 1 - 1 - (q + 1)) (x :: r).reverse = (x :: handL v q r).reverse
    rw [List.reverse_cons, List.reverse_cons, show r.length + 1 - 1 - (q + 1) = r.length - 1 - q by omega, hand_snoc v x _ _ (by rw [List.length_reverse]; omega), hand_reverse v r q hq]
theorem behindL_shift {c : Int} : ∀ {ws : List Wd} {l : List Int}, (∀ w ∈ ws, 0 ≤ w.2) → behindL (l.map fun x => x + c) ws = (behindL l ws).map fun x => x + c
  | [], _, _ => rfl
  | w :: ws, l, h => by
    show behindL (blownL w.1 w.2 (l.map fun x => x + c)) ws = (behindL (blW l w) ws).map fun x => x + c
    rw [blown_shift (h w (by simp))]
    exact behindL_shift (fun v hv => h v (by simp [hv]))
theorem behindL_reverse : ∀ {ws : List Wd} {l : List Int}, (∀ w ∈ ws, 0 ≤ w.2) → behindL l.reverse ws = (behindL l ws).reverse
  | [], _, _ => rfl
  | w :: ws, l, h => by
    show behindL (blownL w.1 w.2 l.reverse) ws = (behindL (blW l w) ws).reverse
    rw [blown_reverse (h w (by simp))]
    exact behindL_reverse (fun v hv => h v (by simp [hv]))
/-- behind: no lower, no more than that more -/
theorem felt_near {ns : List Int} {ws : List Wd} (hw : ∀ w ∈ ws, 0 ≤ w.2) (q : Nat) {v : Int} (hv : 0 ≤ v) : Lq (behindL ns ws) (behindL (handL v q ns) ws) ∧ Lq (behindL (handL v q ns) ws) ((behindL ns ws).map fun x => x + v) :=
  ⟨behindL_mono hw (hand_ge hv q ns), by rw [← behindL_shift hw]; exact behindL_mono hw (hand_le hv q ns)⟩
theorem dif_near {v : Int} : ∀ {a b : List Int}, Lq a b → Lq b (a.map fun x => x + v) → ∀ t ∈ difL a b, 0 ≤ t ∧ t ≤ v
  | [], [], _, _, t, h => by simp [difL] at h
  | x :: a, y :: b, h1, h2, t, h => by
    have h : t ∈ (y - x) :: difL a b := h
    have e1 := h1.1
    have e2 : y ≤ x + v := h2.1
    rcases List.mem_cons.mp h with e | h
    · rw [e]; omega
    · exact dif_near h1.2 h2.2 t h
  | [], _ :: _, h, _, _, _ => h.elim
  | _ :: _, [], h, _, _, _ => h.elim
theorem dif_chain {v : Int} (p : Int → Int → Bool) (hp : ∀ x y, x ≤ y → y ≤ x + v → p x y = true) : ∀ {a b c : List Int}, a.length = b.length → Lq b c → Lq c (b.map fun x => x + v) → (List.zipWith p (difL a b) (difL a c)).all id = true
  | [], [], [], _, _, _ => rfl
  | x :: a, y :: b, z :: c, hl, h1, h2 => by
    have e1 := h1.1
    have e2 : z ≤ y + v := h2.1
    show (p (y - x) (z - x) && (List.zipWith p (difL a b) (difL a c)).all id) = true
    rw [hp _ _ (by omega) (by omega), dif_chain p hp (by simpa using hl) h1.2 h2.2]; rfl
  | [], [], _ :: _, _, h, _ => h.elim
  | _ :: _, _ :: _, [], _, h, _ => h.elim
  | [], _ :: _, _, hl, _, _ => by simp at hl
  | _ :: _, [], _, hl, _, _ => by simp at hl
theorem dif_add : ∀ {a b c : List Int}, a.length = b.length → b.length = c.length → List.zipWith (fun x y => x + y) (difL a b) (difL b c) = difL a c
  | [], [], [], _, _ => rfl
  | x :: a, y :: b, z :: c, h1, h2 => by
    show (y - x + (z - y)) :: List.zipWith (fun x y => x + y) (difL a b) (difL b c) = (z - x) :: difL a c
    rw [dif_add (by simpa using h1) (by simpa using h2), show y - x + (z - y) = z - x by omega]
  | [], [], _ :: _, _, h => by simp at h
  | _ :: _, _ :: _, [], _, h => by simp at h
  | [], _ :: _, _, h, _ => by simp at h
  | _ :: _, [], _, h, _ => by simp at h
theorem add_dif : ∀ {a b : List Int}, a.length = b.length → List.zipWith (fun x y => x + y) a (difL a b) = b
  | [], [], _ => rfl
  | x :: a, y :: b, h => by
    show (x + (y - x)) :: List.zipWith (fun x y => x + y) a (difL a b) = y :: b
    rw [add_dif (by simpa using h), show x + (y - x) = y by omega]
  | [], _ :: _, h => by simp at h
  | _ :: _, [], h => by simp at h
theorem dif_append : ∀ {a b c d : List Int}, a.length = b.length → difL (a ++ c) (b ++ d) = difL a b ++ difL c d
  | [], [], _, _, _ => rfl
  | x :: a, y :: b, c, d, h => by
    show (y - x) :: difL (a ++ c) (b ++ d) = (y - x) :: (difL a b ++ difL c d)
    rw [dif_append (by simpa using h)]
  | [], _ :: _, _, _, h => by simp at h
  | _ :: _, [], _, _, h => by simp at h
theorem dif_reverse : ∀ {a b : List Int}, a.length = b.length → difL a.reverse b.reverse = (difL a b).reverse
  | [], [], _ => rfl
  | x :: a, y :: b, h => by
    have h' : a.length = b.length := by simpa using h
    rw [List.reverse_cons, List.reverse_cons, dif_append (by simpa using h'), dif_reverse h']
    show _ = ((y - x) :: difL a b).reverse
    rw [List.reverse_cons]; rfl
  | [], _ :: _, h => by simp at h
  | _ :: _, [], h => by simp at h
theorem felt_mirror {ns : List Int} {ws : List Wd} (hw : ∀ w ∈ ws, 0 ≤ w.2) {q : Nat} (hq : q < ns.length) (v : Int) : (feltL ns.reverse ws (ns.length - 1 - q) v).reverse = feltL ns ws q v := by
  unfold feltL
  rw [hand_reverse v ns q hq, behindL_reverse hw, behindL_reverse hw, dif_reverse (by rw [behindL_len, behindL_len, handL_len]), List.reverse_reverse]
end Pl
namespace Pl
/-! ### orders: true a cut, false a fill -/
def cT : List Bool → Nat
  | [] => 0
  | true :: o => cT o + 1
  | false :: o => cT o
def cF : List Bool → Nat
  | [] => 0
  | true :: o => cF o
  | false :: o => cF o + 1
theorem cT_append : ∀ (a b : List Bool), cT (a ++ b) = cT a + cT b
  | [], b => by simp [cT]
  | true :: a, b => by show cT (a ++ b) + 1 = cT a + 1 + cT b; rw [cT_append a b]; omega
  | false :: a, b => cT_append a b
theorem cF_append : ∀ (a b : List Bool), cF (a ++ b) = cF a + cF b
  | [], b => by simp [cF]
  | false :: a, b => by show cF (a ++ b) + 1 = cF a + 1 + cF b; rw [cF_append a b]; omega
  | true :: a, b => cF_append a b
theorem cT_cF : ∀ o : List Bool, cT o + cF o = o.length
  | [] => rfl
  | true :: o => by have := cT_cF o; show cT o + 1 + cF o = o.length + 1; omega
  | false :: o => by have := cT_cF o; show cT o + (cF o + 1) = o.length + 1; omega
/-- the almanac of both books in an order, from the i-th cut and the j-th fill on -/
def almL (cuts fills : List Int) (i j : Nat) : List Bool → List Wd
  | [] => []
  | true :: o => (true, cuts.getD i 0) :: almL cuts fills (i + 1) j o
  | false :: o => (false, fills.getD j 0) :: almL cuts fills i (j + 1) o
theorem almL_len (cuts fills : List Int) : ∀ (o : List Bool) (i j : Nat), (almL cuts fills i j o).length = o.length
  | [], _, _ => rfl
  | true :: o, i, j => by simp [almL, almL_len cuts fills o]
  | false :: o, i, j => by simp [almL, almL_len cuts fills o]
theorem almL_snocT (cuts fills : List Int) : ∀ (o : List Bool) (i j : Nat), almL cuts fills i j (o ++ [true]) = almL cuts fills i j o ++ [(true, cuts.getD (i + cT o) 0)]
  | [], i, j => by simp [almL, cT]
  | true :: o, i, j => by
    show (true, cuts.getD i 0) :: almL cuts fills (i + 1) j (o ++ [true]) = (true, cuts.getD i 0) :: (almL cuts fills (i + 1) j o ++ [(true, cuts.getD (i + (cT o + 1)) 0)])
    rw [almL_snocT cuts fills o, show i + 1 + cT o = i + (cT o + 1) by omega]
  | false :: o, i, j => by
    show (false, fills.getD j 0) :: almL cuts fills i (j + 1) (o ++ [true]) = (false, fills.getD j 0) :: (almL cuts fills i (j + 1) o ++ [(true, cuts.getD (i + cT o) 0)])
    rw [almL_snocT cuts fills o]
theorem almL_snocF (cuts fills : List Int) : ∀ (o : List Bool) (i j : Nat), almL cuts fills i j (o ++ [false]) = almL cuts fills i j o ++ [(false, fills.getD (j + cF o) 0)]
  | [], i, j => by simp [almL, cF]
  | true :: o, i, j => by
    show (true, cuts.getD i 0) :: almL cuts fills (i + 1) j (o ++ [false]) = (true, cuts.getD i 0) :: (almL cuts fills (i + 1) j o ++ [(false, fills.getD (j + cF o) 0)])
    rw [almL_snocF cuts fills o]
  | false :: o, i, j => by
    show (false, fills.getD j 0) :: almL cuts fills i (j + 1) (o ++ [false]) = (false, fills.getD j 0) :: (almL cuts fills i (j + 1) o ++ [(false, fills.getD (j + (cF o + 1)) 0)])
    rw [almL_snocF cuts fills o, show j + 1 + cF o = j + (cF o + 1) by omega]
theorem getD_nonneg {l : List Int} (h : ∀ x ∈ l, 0 ≤ x) (i : Nat) : 0 ≤ l.getD i 0 := by
  rw [List.getD_eq_getElem?_getD]
  cases e : l[i]? with
  | none => simp
  | some x => simp; exact h x (List.mem_of_getElem? e)
theorem almL_nonneg {cuts fills : List Int} (hc : ∀ x ∈ cuts, 0 ≤ x) (hf : ∀ x ∈ fills, 0 ≤ x) : ∀ (o : List Bool) (i j : Nat), ∀ w ∈ almL cuts fills i j o, 0 ≤ w.2
  | [], _, _, w, h => by simp [almL] at h
  | true :: o, i, j, w, h => by
    rcases List.mem_cons.mp h with e | h
    · rw [e]; exact getD_nonneg hc i
    · exact almL_nonneg hc hf o _ _ w h
  | false :: o, i, j, w, h => by
    rcases List.mem_cons.mp h with e | h
    · rw [e]; exact getD_nonneg hf j
    · exact almL_nonneg hc hf o _ _ w h
theorem almL_memT (cuts fills : List Int) : ∀ (o : List Bool) (i j k : Nat), k < cT o → (true, cuts.getD (i + k) 0) ∈ almL cuts fills i j o
  | [], _, _, k, h => by simp [cT] at h
  | true :: o, i, j, 0, _ => by simp [almL]
  | true :: o, i, j, k + 1, h => by
    have := almL_memT cuts fills o (i + 1) j k (by have : k + 1 < cT o + 1 := h; omega)
    rw [show i + 1 + k = i + (k + 1) by omega] at this
    exact List.mem_cons_of_mem _ this
  | false :: o, i, j, k, h => List.mem_cons_of_mem _ (almL_memT cuts fills o i (j + 1) k h)
theorem almL_memF (cuts fills : List Int) : ∀ (o : List Bool) (i j k : Nat), k < cF o → (false, fills.getD (j + k) 0) ∈ almL cuts fills i j o
  | [], _, _, k, h => by simp [cF] at h
  | false :: o, i, j, 0, _ => by simp [almL]
  | false :: o, i, j, k + 1, h => by
    have := almL_memF cuts fills o i (j + 1) k (by have : k + 1 < cF o + 1 := h; omega)
    rw [show j + 1 + k = j + (k + 1) by omega] at this
    exact List.mem_cons_of_mem _ this
  | true :: o, i, j, k, h => List.mem_cons_of_mem _ (almL_memF cuts fills o (i + 1) j k h)
/-- for each fill how many cuts are ahead of it -/
def aheadL (k : Nat) : List Bool → List Nat
  | [] => []
  | true :: o => aheadL (k + 1) o
  | false :: o => k :: aheadL k o
theorem aheadL_len : ∀ (o : List Bool) (k : Nat), (aheadL k o).length = cF o
  | [], _ => rfl
  | true :: o, k => aheadL_len o (k + 1)
  | false :: o, k => by show (aheadL k o).length + 1 = cF o + 1; rw [aheadL_len o k]
theorem aheadL_snocT : ∀ (o : List Bool) (k : Nat), aheadL k (o ++ [true]) = aheadL k o
  | [], _ => rfl
  | true :: o, k => aheadL_snocT o (k + 1)
  | false :: o, k => by show k :: aheadL k (o ++ [true]) = k :: aheadL k o; rw [aheadL_snocT o k]
theorem aheadL_snocF : ∀ (o : List Bool) (k : Nat), aheadL k (o ++ [false]) = aheadL k o ++ [k + cT o]
  | [], _ => by simp [aheadL, cT]
  | true :: o, k => by show aheadL (k + 1) (o ++ [false]) = aheadL (k + 1) o ++ [k + (cT o + 1)]; rw [aheadL_snocF o (k + 1), show k + 1 + cT o = k + (cT o + 1) by omega]
  | false :: o, k => by show k :: aheadL k (o ++ [false]) = k :: (aheadL k o ++ [k + cT o]); rw [aheadL_snocF o k]
theorem aheadL_le : ∀ (o : List Bool) (k : Nat), ∀ x ∈ aheadL k o, k ≤ x ∧ x ≤ k + cT o
  | [], _, x, h => by simp [aheadL] at h
  | true :: o, k, x, h => by
    have := aheadL_le o (k + 1) x h
    show k ≤ x ∧ x ≤ k + (cT o + 1); omega
  | false :: o, k, x, h => by
    rcases List.mem_cons.mp h with e | h
    · subst e; show x ≤ x ∧ x ≤ x + cT o; omega
    · exact aheadL_le o k x h
structure Dom (A B : List Bool) : Prop where
  t : cT B ≤ cT A
  f : cF A ≤ cF B
  le : ∀ (j x y : Nat), (aheadL 0 A)[j]? = some x → (aheadL 0 B)[j]? = some y → y ≤ x
theorem behindL_snoc (l : List Int) (ws : List Wd) (w : Wd) : behindL l (ws ++ [w]) = blW (behindL l ws) w := behindL_append l ws [w]
theorem get_snoc_lt {l : List Nat} {x y : Nat} {j : Nat} (h : l[j]? = some y) : (l ++ [x])[j]? = some y := by
  have hj : j < l.length := by
    rcases Nat.lt_or_ge j l.length with q | q
    · exact q
    · rw [List.getElem?_eq_none q] at h; cases h
  rw [List.getElem?_append_left hj]; exact h
/-- an order with as many cuts or more ahead of each fill leaves nothing higher -/
theorem dom_le {cuts fills : List Int} (hc : ∀ x ∈ cuts, 0 ≤ x) (hf : ∀ x ∈ fills, 0 ≤ x) (l : List Int) : ∀ (n : Nat) (A B : List Bool), A.length + B.length ≤ n → Dom A B → Lq (behindL l (almL cuts fills 0 0 A)) (behindL l (almL cuts fills 0 0 B)) := by
  intro n
  induction n with
  | zero =>
    intro A B hn D
    have hA : A = [] := List.length_eq_zero_iff.mp (by omega)
    have hB : B = [] := List.length_eq_zero_iff.mp (by omega)
    subst hA hB
    exact Lq.refl _
  | succ n ih =>
    intro A B hn D
    rcases List.eq_nil_or_concat B with rfl | ⟨B', b, rfl⟩
    · rcases List.eq_nil_or_concat A with rfl | ⟨A', a, rfl⟩
      · exact Lq.refl _
      · rw [List.concat_eq_append] at *
        cases a with
        | false =>
          have := D.f
          rw [cF_append] at this
          simp [cF] at this
        | true =>
          rw [almL_snocT, behindL_snoc]
          have D' : Dom A' [] := ⟨Nat.zero_le _, by have := D.f; rw [cF_append] at this; simpa [cF] using this, fun j x y _ h => by simp [aheadL] at h⟩
          exact (cutTo_le _ _).trans (ih A' [] (by simp at hn ⊢; omega) D')
    · rw [List.concat_eq_append] at *
      cases b with
      | true =>
        rw [almL_snocT, behindL_snoc]
        have h1 := D.t
        rw [cT_append] at h1
        have h1 : cT B' + 1 ≤ cT A := h1
        have D' : Dom A B' := ⟨by omega, by have := D.f; rw [cF_append] at this; simpa [cF] using this, fun j x y hx hy => D.le j x y hx (by rw [aheadL_snocT]; exact hy)⟩
        have hg : Gentle (cuts.getD (0 + cT B') 0) (behindL l (almL cuts fills 0 0 A)) := behindL_gentle (almL_nonneg hc hf A 0 0) _ (almL_memT cuts fills A 0 0 (cT B') (by omega))
        exact cutTo_max hg (ih A B' (by simp at hn; omega) D')
      | false =>
        rcases List.eq_nil_or_concat A with rfl | ⟨A', a, rfl⟩
        · rw [almL_snocF, behindL_snoc]
          have D' : Dom [] B' := ⟨by have := D.t; rw [cT_append] at this; simpa [cT] using this, Nat.zero_le _, fun j x y h _ => by simp [aheadL] at h⟩
          exact (ih [] B' (by simp at hn ⊢; omega) D').trans (fillTo_ge _ _)
        · rw [List.concat_eq_append] at *
          cases a with
          | false =>
            rw [almL_snocF, behindL_snoc]
            have h1 := D.f
            rw [cF_append] at h1
            have h1 : cF A' + 1 ≤ cF (B' ++ [false]) := h1
            have D' : Dom A' (B' ++ [false]) := ⟨by have := D.t; rw [cT_append A'] at this; simpa [cT] using this, by omega, fun j x y hx hy => D.le j x y (by rw [aheadL_snocF]; exact get_snoc_lt hx) hy⟩
            have hg : Gentle (fills.getD (0 + cF A') 0) (behindL l (almL cuts fills 0 0 (B' ++ [false]))) := behindL_gentle (almL_nonneg hc hf _ 0 0) _ (almL_memF cuts fills _ 0 0 (cF A') (by omega))
            exact fillTo_min hg (ih A' (B' ++ [false]) (by simp at hn ⊢; omega) D')
          | true =>
            have ht := D.t
            have hff := D.f
            rw [cT_append, cT_append] at ht
            rw [cF_append, cF_append] at hff
            have ht : cT B' + 0 ≤ cT A' + 1 := ht
            have hff : cF A' + 0 ≤ cF B' + 1 := hff
            by_cases h1 : cF A' ≤ cF B'
            · have D' : Dom (A' ++ [true]) B' := ⟨by rw [cT_append]; show cT B' ≤ cT A' + 1; omega, by rw [cF_append]; show cF A' + 0 ≤ cF B'; omega, fun j x y hx hy => D.le j x y hx (by rw [aheadL_snocF]; exact get_snoc_lt hy)⟩
              rw [almL_snocF, behindL_snoc]
              exact (ih (A' ++ [true]) B' (by simp at hn ⊢; omega) D').trans (fillTo_ge _ _)
            · by_cases h2 : cT B' ≤ cT A'
              · have D' : Dom A' (B' ++ [false]) := ⟨by rw [cT_append]; show cT B' + 0 ≤ cT A'; omega, by rw [cF_append]; show cF A' ≤ cF B' + 1; omega, fun j x y hx hy => D.le j x y (by rw [aheadL_snocT]; exact hx) hy⟩
                rw [almL_snocT, behindL_snoc]
                exact (cutTo_le _ _).trans (ih A' (B' ++ [false]) (by simp at hn ⊢; omega) D')
              · exfalso
                have e : cF A' = cF B' + 1 := by omega
                have hlen := aheadL_len A' 0
                have hx : (aheadL 0 A')[cF B']? = some ((aheadL 0 A')[cF B']'(by omega)) := List.getElem?_eq_getElem (by omega)
                have hy : (aheadL 0 (B' ++ [false]))[cF B']? = some (0 + cT B') := by
                  rw [aheadL_snocF, List.getElem?_append_right (by rw [aheadL_len]; exact Nat.le_refl _), aheadL_len, Nat.sub_self]; rfl
                have := D.le _ _ _ (by rw [aheadL_snocT]; exact hx) hy
                have hm := aheadL_le A' 0 _ (List.mem_of_getElem? hx)
                omega
end Pl
namespace Pl
/-! ### orders by how many cuts are ahead of each fill -/
def Rise (m : Nat) : Nat → List Nat → Prop
  | d, [] => d ≤ m
  | d, a :: as => d ≤ a ∧ Rise m a as
def ordW (d : Nat) : List Nat → Nat → List Bool
  | [], m => List.replicate (m - d) true
  | a :: as, m => List.replicate (a - d) true ++ false :: ordW a as m
theorem Rise.le {m : Nat} : ∀ {as : List Nat} {d : Nat}, Rise m d as → d ≤ m
  | [], _, h => h
  | a :: as, d, h => Nat.le_trans h.1 (Rise.le h.2)
theorem cT_rep : ∀ n : Nat, cT (List.replicate n true) = n
  | 0 => rfl
  | n + 1 => by show cT (List.replicate n true) + 1 = n + 1; rw [cT_rep n]
theorem cF_rep : ∀ n : Nat, cF (List.replicate n true) = 0
  | 0 => rfl
  | n + 1 => cF_rep n
theorem ahead_rep (o : List Bool) : ∀ (n k : Nat), aheadL k (List.replicate n true ++ o) = aheadL (k + n) o
  | 0, k => rfl
  | n + 1, k => by
    show aheadL (k + 1) (List.replicate n true ++ o) = _
    rw [ahead_rep o n (k + 1), show k + 1 + n = k + (n + 1) by omega]
theorem ordW_cT {m : Nat} : ∀ {as : List Nat} {d : Nat}, Rise m d as → cT (ordW d as m) = m - d
  | [], d, _ => cT_rep _
  | a :: as, d, h => by
    show cT (List.replicate (a - d) true ++ false :: ordW a as m) = m - d
    rw [cT_append, cT_rep]
    show a - d + cT (ordW a as m) = m - d
    rw [ordW_cT h.2]
    have := h.1; have := h.2.le; omega
theorem ordW_cF (m : Nat) : ∀ (as : List Nat) (d : Nat), cF (ordW d as m) = as.length
  | [], d => cF_rep _
  | a :: as, d => by
    show cF (List.replicate (a - d) true ++ false :: ordW a as m) = as.length + 1
    rw [cF_append, cF_rep]
    show 0 + (cF (ordW a as m) + 1) = as.length + 1
    rw [ordW_cF m as a]; omega
theorem ordW_ahead {m : Nat} : ∀ {as : List Nat} {d : Nat}, Rise m d as → aheadL d (ordW d as m) = as
  | [], d, _ => by
    show aheadL d (List.replicate (m - d) true) = []
    have := ahead_rep [] (m - d) d
    rw [List.append_nil] at this
    rw [this]; rfl
  | a :: as, d, h => by
    show aheadL d (List.replicate (a - d) true ++ false :: ordW a as m) = a :: as
    rw [ahead_rep, show d + (a - d) = a by have := h.1; omega]
    show a :: aheadL a (ordW a as m) = a :: as
    rw [ordW_ahead h.2]
theorem ordW_step {m k : Nat} : ∀ {as : List Nat}, Rise m (k + 1) as → ordW k as m = true :: ordW (k + 1) as m
  | [], h => by
    have h : k + 1 ≤ m := h
    show List.replicate (m - k) true = true :: List.replicate (m - (k + 1)) true
    rw [show m - k = (m - (k + 1)) + 1 by omega]; rfl
  | a :: as, h => by
    have := h.1
    show List.replicate (a - k) true ++ false :: ordW a as m = true :: (List.replicate (a - (k + 1)) true ++ false :: ordW a as m)
    rw [show a - k = (a - (k + 1)) + 1 by omega]; rfl
theorem rise_ahead : ∀ (o : List Bool) (k : Nat), Rise (k + cT o) k (aheadL k o)
  | [], k => by show k ≤ k + 0; omega
  | true :: o, k => by
    show Rise (k + (cT o + 1)) k (aheadL (k + 1) o)
    have h := rise_ahead o (k + 1)
    rw [show k + 1 + cT o = k + (cT o + 1) by omega] at h
    generalize aheadL (k + 1) o = as at h
    cases as with
    | nil => show k ≤ _; omega
    | cons a as => exact ⟨by have := h.1; omega, h.2⟩
  | false :: o, k => ⟨Nat.le_refl _, rise_ahead o k⟩
theorem ord_of : ∀ (o : List Bool) (k : Nat), ordW k (aheadL k o) (k + cT o) = o
  | [], k => by show List.replicate (k + 0 - k) true = []; rw [show k + 0 - k = 0 by omega]; rfl
  | true :: o, k => by
    show ordW k (aheadL (k + 1) o) (k + (cT o + 1)) = true :: o
    have h := rise_ahead o (k + 1)
    rw [show k + 1 + cT o = k + (cT o + 1) by omega] at h
    rw [ordW_step h]
    have e := ord_of o (k + 1)
    rw [show k + 1 + cT o = k + (cT o + 1) by omega] at e
    rw [e]
  | false :: o, k => by
    show List.replicate (k - k) true ++ false :: ordW k (aheadL k o) (k + cT o) = false :: o
    rw [Nat.sub_self, ord_of o k]; rfl
theorem rise_get {m : Nat} : ∀ {as : List Nat} {d : Nat}, Rise m d as → ∀ (i j x y : Nat), i ≤ j → as[i]? = some x → as[j]? = some y → x ≤ y ∧ d ≤ x ∧ y ≤ m
  | [], _, _, i, j, x, y, _, h, _ => by simp at h
  | a :: as, d, h, 0, 0, x, y, _, h1, h2 => by
    have e1 : a = x := by simpa using h1
    have e2 : a = y := by simpa using h2
    subst e1 e2
    exact ⟨Nat.le_refl _, h.1, h.2.le⟩
  | a :: as, d, h, 0, j + 1, x, y, _, h1, h2 => by
    have e1 : a = x := by simpa using h1
    subst e1
    have h2 : as[j]? = some y := by simpa using h2
    have := rise_get h.2 j j y y (Nat.le_refl _) h2 h2
    exact ⟨this.2.1, h.1, this.2.2⟩
  | a :: as, d, h, i + 1, j + 1, x, y, hij, h1, h2 => by
    have := rise_get h.2 i j x y (by omega) (by simpa using h1) (by simpa using h2)
    exact ⟨this.1, Nat.le_trans h.1 this.2.1, this.2.2⟩
  | a :: as, d, h, i + 1, 0, x, y, hij, _, _ => by omega
theorem rise_of {m : Nat} (f : Nat → Nat) (hm : ∀ i, f i ≤ m) : ∀ (n k d : Nat), d ≤ m → (∀ i, k ≤ i → d ≤ f i) → (∀ i j, i ≤ j → f i ≤ f j) → Rise m d ((List.range' k n).map f)
  | 0, k, d, h0, _, _ => h0
  | n + 1, k, d, h0, hd, hf => ⟨hd k (Nat.le_refl _), rise_of f hm n (k + 1) (f k) (hm k) (fun i hi => hf k i (by omega)) hf⟩
/-! ### words -/
abbrev Wo := Bool × Nat × Nat
def hasW (as : List Nat) (w : Wo) : Bool := w.1 == decide (w.2.1 < as.getD w.2.2 0)
def contr (u v : Wo) : Bool := match u.1, v.1 with
  | true, false => decide (v.2.1 ≤ u.2.1) && decide (u.2.2 ≤ v.2.2)
  | false, true => decide (u.2.1 ≤ v.2.1) && decide (v.2.2 ≤ u.2.2)
  | _, _ => false
def loN (ws : List Wo) (f : Nat) : Nat := ((ws.filter fun w => w.1 && decide (w.2.2 ≤ f)).map fun w => w.2.1 + 1).foldl max 0
def hiN (m : Nat) (ws : List Wo) (f : Nat) : Nat := ((ws.filter fun w => !w.1 && decide (f ≤ w.2.2)).map fun w => w.2.1).foldl min m
theorem nmax_le {b : Nat} : ∀ {l : List Nat} {a : Nat}, l.foldl max a ≤ b ↔ a ≤ b ∧ ∀ x ∈ l, x ≤ b
  | [], a => by simp
  | x :: l, a => by
    rw [List.foldl_cons, nmax_le]
    simp
    constructor
    · rintro ⟨h1, h2⟩; exact ⟨by omega, by omega, h2⟩
    · rintro ⟨h1, h2, h3⟩; exact ⟨by omega, h3⟩
theorem nmin_ge {b : Nat} : ∀ {l : List Nat} {a : Nat}, b ≤ l.foldl min a ↔ b ≤ a ∧ ∀ x ∈ l, b ≤ x
  | [], a => by simp
  | x :: l, a => by
    rw [List.foldl_cons, nmin_ge]
    simp
    constructor
    · rintro ⟨h1, h2⟩; exact ⟨by omega, by omega, h2⟩
    · rintro ⟨h1, h2, h3⟩; exact ⟨by omega, h3⟩
theorem lo_le {ws : List Wo} {f b : Nat} : loN ws f ≤ b ↔ ∀ w ∈ ws, w.1 = true → w.2.2 ≤ f → w.2.1 + 1 ≤ b := by
  unfold loN
  rw [nmax_le]
  constructor
  · rintro ⟨_, h⟩ w hw h1 h2
    exact h _ (List.mem_map.mpr ⟨w, List.mem_filter.mpr ⟨hw, by simp [h1, h2]⟩, rfl⟩)
  · intro h
    refine ⟨Nat.zero_le _, fun x hx => ?_⟩
    obtain ⟨w, hw, rfl⟩ := List.mem_map.mp hx
    obtain ⟨hw, hp⟩ := List.mem_filter.mp hw
    have hp : w.1 = true ∧ w.2.2 ≤ f := by simpa using hp
    exact h w hw hp.1 hp.2
theorem hi_ge {m : Nat} {ws : List Wo} {f b : Nat} : b ≤ hiN m ws f ↔ b ≤ m ∧ ∀ w ∈ ws, w.1 = false → f ≤ w.2.2 → b ≤ w.2.1 := by
  unfold hiN
  rw [nmin_ge]
  constructor
  · rintro ⟨h0, h⟩
    exact ⟨h0, fun w hw h1 h2 => h _ (List.mem_map.mpr ⟨w, List.mem_filter.mpr ⟨hw, by simp [h1, h2]⟩, rfl⟩)⟩
  · rintro ⟨h0, h⟩
    refine ⟨h0, fun x hx => ?_⟩
    obtain ⟨w, hw, rfl⟩ := List.mem_map.mp hx
    obtain ⟨hw, hp⟩ := List.mem_filter.mp hw
    have hp : w.1 = false ∧ f ≤ w.2.2 := by simpa using hp
    exact h w hw hp.1 hp.2
theorem lo_mono {ws vs : List Wo} (h : ∀ w ∈ ws, w ∈ vs) (f : Nat) : loN ws f ≤ loN vs f := lo_le.mpr fun w hw h1 h2 => lo_le.mp (Nat.le_refl (loN vs f)) w (h w hw) h1 h2
theorem hi_mono {m : Nat} {ws vs : List Wo} (h : ∀ w ∈ ws, w ∈ vs) (f : Nat) : hiN m vs f ≤ hiN m ws f := hi_ge.mpr ⟨(hi_ge.mp (Nat.le_refl (hiN m vs f))).1, fun w hw h1 h2 => (hi_ge.mp (Nat.le_refl (hiN m vs f))).2 w (h w hw) h1 h2⟩
theorem lo_rise (ws : List Wo) {f g : Nat} (h : f ≤ g) : loN ws f ≤ loN ws g := lo_le.mpr fun w hw h1 h2 => lo_le.mp (Nat.le_refl (loN ws g)) w hw h1 (by omega)
theorem hi_rise (m : Nat) (ws : List Wo) {f g : Nat} (h : f ≤ g) : hiN m ws f ≤ hiN m ws g := hi_ge.mpr ⟨(hi_ge.mp (Nat.le_refl (hiN m ws f))).1, fun w hw h1 h2 => (hi_ge.mp (Nat.le_refl (hiN m ws f))).2 w hw h1 (by omega)⟩
/-- words of cuts and fills that there are -/
def InB (m n : Nat) (ws : List Wo) : Prop := ∀ w ∈ ws, w.2.1 < m ∧ w.2.2 < n
theorem lo_top {m n : Nat} {ws : List Wo} (h : InB m n ws) (f : Nat) : loN ws f ≤ m := lo_le.mpr fun w hw _ _ => (h w hw).1
theorem hi_top (m : Nat) (ws : List Wo) (f : Nat) : hiN m ws f ≤ m := (hi_ge.mp (Nat.le_refl (hiN m ws f))).1
def loL (n : Nat) (ws : List Wo) : List Nat := (List.range' 0 n).map (loN ws)
def hiL (m n : Nat) (ws : List Wo) : List Nat := (List.range' 0 n).map (hiN m ws)
theorem loL_rise {m n : Nat} {ws : List Wo} (h : InB m n ws) : Rise m 0 (loL n ws) := rise_of _ (lo_top h) n 0 0 (Nat.zero_le _) (fun _ _ => Nat.zero_le _) fun _ _ h => lo_rise ws h
theorem hiL_rise (m n : Nat) (ws : List Wo) : Rise m 0 (hiL m n ws) := rise_of _ (hi_top m ws) n 0 0 (Nat.zero_le _) (fun _ _ => Nat.zero_le _) fun _ _ h => hi_rise m ws h
/-- an order that has all words lies within the bounds -/
theorem has_between {m : Nat} {as : List Nat} (hr : Rise m 0 as) {ws : List Wo} (hb : InB m as.length ws) (h : ∀ w ∈ ws, hasW as w = true) {f x : Nat} (hx : as[f]? = some x) : loN ws f ≤ x ∧ x ≤ hiN m ws f := by
  refine ⟨lo_le.mpr fun w hw h1 h2 => ?_, hi_ge.mpr ⟨(rise_get hr f f x x (Nat.le_refl _) hx hx).2.2, fun w hw h1 h2 => ?_⟩⟩
  · have hh := h w hw
    unfold hasW at hh
    rw [h1] at hh
    have hlt : w.2.1 < as.getD w.2.2 0 := by simpa using hh
    have hg : as[w.2.2]? = some (as[w.2.2]'(hb w hw).2) := List.getElem?_eq_getElem _
    rw [List.getD_eq_getElem?_getD, hg] at hlt
    have := (rise_get hr _ _ _ _ h2 hg hx).1
    have hlt : w.2.1 < as[w.2.2]'(hb w hw).2 := hlt
    omega
  · have hh := h w hw
    unfold hasW at hh
    rw [h1] at hh
    have hlt : ¬ w.2.1 < as.getD w.2.2 0 := by simpa using hh
    have hg : as[w.2.2]? = some (as[w.2.2]'(hb w hw).2) := List.getElem?_eq_getElem _
    rw [List.getD_eq_getElem?_getD, hg] at hlt
    have := (rise_get hr _ _ _ _ h2 hx hg).1
    have hlt : ¬ w.2.1 < as[w.2.2]'(hb w hw).2 := hlt
    omega
theorem has_noclash {m : Nat} {as : List Nat} (hr : Rise m 0 as) {u v : Wo} (hu : u.2.2 < as.length) (hv : v.2.2 < as.length) (h1 : hasW as u = true) (h2 : hasW as v = true) : contr u v = false := by
  have key : ∀ {u v : Wo}, u.2.2 < as.length → v.2.2 < as.length → hasW as u = true → hasW as v = true → u.1 = true → v.1 = false → ¬ (v.2.1 ≤ u.2.1 ∧ u.2.2 ≤ v.2.2) := by
    intro u v hu hv h1 h2 e1 e2 hh
    unfold hasW at h1 h2
    rw [e1] at h1
    rw [e2] at h2
    have a1 : u.2.1 < as.getD u.2.2 0 := by simpa using h1
    have a2 : ¬ v.2.1 < as.getD v.2.2 0 := by simpa using h2
    have g1 : as[u.2.2]? = some (as[u.2.2]'hu) := List.getElem?_eq_getElem _
    have g2 : as[v.2.2]? = some (as[v.2.2]'hv) := List.getElem?_eq_getElem _
    rw [List.getD_eq_getElem?_getD, g1] at a1
    rw [List.getD_eq_getElem?_getD, g2] at a2
    have a1 : u.2.1 < as[u.2.2]'hu := a1
    have a2 : ¬ v.2.1 < as[v.2.2]'hv := a2
    have := (rise_get hr _ _ _ _ hh.2 g1 g2).1
    omega
  unfold contr
  cases e1 : u.1 with
  | true =>
    cases e2 : v.1 with
    | true => rfl
    | false => have := key hu hv h1 h2 e1 e2; simpa using fun h => by have := this; omega
  | false =>
    cases e2 : v.1 with
    | false => rfl
    | true => have := key hv hu h2 h1 e2 e1; simpa using fun h => by have := this; omega
theorem get_lo {n : Nat} {ws : List Wo} {f x : Nat} (h : (loL n ws)[f]? = some x) : x = loN ws f ∧ f < n := by
  unfold loL at h
  rw [List.getElem?_map] at h
  by_cases hf : f < n
  · rw [List.getElem?_range' hf] at h
    have h : loN ws (0 + 1 * f) = x := by simpa using h
    rw [show 0 + 1 * f = f by omega] at h
    exact ⟨h.symm, hf⟩
  · rw [List.getElem?_eq_none (by simpa using hf)] at h; cases h
theorem get_hi {m n : Nat} {ws : List Wo} {f x : Nat} (h : (hiL m n ws)[f]? = some x) : x = hiN m ws f ∧ f < n := by
  unfold hiL at h
  rw [List.getElem?_map] at h
  by_cases hf : f < n
  · rw [List.getElem?_range' hf] at h
    have h : hiN m ws (0 + 1 * f) = x := by simpa using h
    rw [show 0 + 1 * f = f by omega] at h
    exact ⟨h.symm, hf⟩
  · rw [List.getElem?_eq_none (by simpa using hf)] at h; cases h
end Pl
namespace Pl
/-! ### how many orders there are -/
def wayL (lo hi : Nat) : Nat → List Int → List Int
  | _, [] => []
  | k, x :: r => ((if lo ≤ k ∧ k ≤ hi then x else 0) + (wayL lo hi (k + 1) r).headD 0) :: wayL lo hi (k + 1) r
def baseL (m : Nat) : List Int := List.replicate (m + 1) 1 ++ [0]
def rowsL (m : Nat) : List (Nat × Nat) → List Int
  | [] => baseL m
  | b :: bs => wayL b.1 b.2 0 (rowsL m bs)
def manyL (m : Nat) (bs : List (Nat × Nat)) : Int := (rowsL m bs).headD 0
theorem wayL_len (lo hi : Nat) : ∀ (r : List Int) (k : Nat), (wayL lo hi k r).length = r.length
  | [], _ => rfl
  | x :: r, k => by simp [wayL, wayL_len lo hi r]
theorem rowsL_len (m : Nat) : ∀ bs : List (Nat × Nat), (rowsL m bs).length = m + 2
  | [] => by simp [rowsL, baseL]
  | b :: bs => by rw [rowsL, wayL_len, rowsL_len m bs]
theorem headD_getD (l : List Int) : l.headD 0 = l.getD 0 0 := by cases l <;> rfl
/-- a row's value, and the next one's -/
theorem way_get (lo hi : Nat) : ∀ (r : List Int) (k i : Nat), (wayL lo hi k r).getD i 0 = (if lo ≤ k + i ∧ k + i ≤ hi then r.getD i 0 else 0) + (wayL lo hi k r).getD (i + 1) 0
  | [], k, i => by simp [wayL]
  | x :: r, k, 0 => by
    show (if lo ≤ k ∧ k ≤ hi then x else 0) + (wayL lo hi (k + 1) r).headD 0 = _
    rw [headD_getD]; rfl
  | x :: r, k, i + 1 => by
    show (wayL lo hi (k + 1) r).getD i 0 = (if lo ≤ k + (i + 1) ∧ k + (i + 1) ≤ hi then r.getD i 0 else 0) + (wayL lo hi (k + 1) r).getD (i + 1) 0
    have := way_get lo hi r (k + 1) i
    rw [show k + 1 + i = k + (i + 1) by omega] at this
    exact this
theorem way_out (lo hi : Nat) (r : List Int) (k i : Nat) (h : r.length ≤ i) : (wayL lo hi k r).getD i 0 = 0 := by
  rw [List.getD_eq_getElem?_getD, List.getElem?_eq_none (by rw [wayL_len]; exact h)]; rfl
theorem rowL_out (m : Nat) (bs : List (Nat × Nat)) (i : Nat) (h : m + 2 ≤ i) : (rowsL m bs).getD i 0 = 0 := by
  rw [List.getD_eq_getElem?_getD, List.getElem?_eq_none (by rw [rowsL_len]; exact h)]; rfl
theorem rowL_get (m : Nat) (b : Nat × Nat) (bs : List (Nat × Nat)) (i : Nat) : (rowsL m (b :: bs)).getD i 0 = (if b.1 ≤ i ∧ i ≤ b.2 then (rowsL m bs).getD i 0 else 0) + (rowsL m (b :: bs)).getD (i + 1) 0 := by
  have := way_get b.1 b.2 (rowsL m bs) 0 i
  rw [Nat.zero_add] at this
  exact this
theorem base_get (m i : Nat) : (baseL m).getD i 0 = if i ≤ m then 1 else 0 := by
  unfold baseL
  rw [List.getD_eq_getElem?_getD]
  by_cases h : i ≤ m
  · rw [if_pos h, List.getElem?_append_left (by simp; omega), List.getElem?_replicate, if_pos (by omega)]; rfl
  · rw [if_neg h, List.getElem?_append_right (by simp; omega)]
    rw [List.length_replicate]
    rcases Nat.eq_zero_or_pos (i - (m + 1)) with z | z
    · rw [z]; rfl
    · rw [List.getElem?_eq_none (by show 1 ≤ i - (m + 1); omega)]; rfl
/-- from the end on -/
theorem down_ind {N : Nat} {P : Nat → Prop} (h0 : ∀ i, N ≤ i → P i) (hs : ∀ i, P (i + 1) → P i) : ∀ i, P i := by
  intro i
  have : ∀ d i, N - i ≤ d → P i := by
    intro d
    induction d with
    | zero => intro i h; exact h0 i (by omega)
    | succ d ih => intro i h; exact hs i (ih (i + 1) (by omega))
  exact this N i (by omega)
theorem rowL_nonneg (m : Nat) : ∀ (bs : List (Nat × Nat)) (i : Nat), 0 ≤ (rowsL m bs).getD i 0
  | [], i => by show 0 ≤ (baseL m).getD i 0; rw [base_get]; split <;> omega
  | b :: bs, i => by
    refine down_ind (N := m + 2) (P := fun i => 0 ≤ (rowsL m (b :: bs)).getD i 0) (fun i h => by rw [rowL_out m _ i h]; omega) (fun i h => ?_) i
    rw [rowL_get]
    have := rowL_nonneg m bs i
    split <;> omega
/-- bounds within bounds -/
def Within : List (Nat × Nat) → List (Nat × Nat) → Prop
  | [], [] => True
  | b :: bs, c :: cs => c.1 ≤ b.1 ∧ b.2 ≤ c.2 ∧ Within bs cs
  | _, _ => False
theorem rowL_mono (m : Nat) : ∀ {bs cs : List (Nat × Nat)}, Within bs cs → ∀ i, (rowsL m bs).getD i 0 ≤ (rowsL m cs).getD i 0
  | [], [], _, i => Int.le_refl _
  | b :: bs, c :: cs, h, i => by
    refine down_ind (N := m + 2) (P := fun i => (rowsL m (b :: bs)).getD i 0 ≤ (rowsL m (c :: cs)).getD i 0) (fun i h => by rw [rowL_out m _ i h, rowL_out m _ i h]; omega) (fun i hi => ?_) i
    rw [rowL_get m b bs i, rowL_get m c cs i]
    have h1 := rowL_mono m h.2.2 i
    have h2 := rowL_nonneg m cs i
    have h3 := h.1
    have h4 := h.2.1
    by_cases q : b.1 ≤ i ∧ i ≤ b.2
    · rw [if_pos q, if_pos (show c.1 ≤ i ∧ i ≤ c.2 by omega)]; omega
    · rw [if_neg q]
      split <;> omega
  | [], _ :: _, h, _ => h.elim
  | _ :: _, [], h, _ => h.elim
/-- a rising row of numbers within bounds -/
def Fits2 (m : Nat) : Nat → List (Nat × Nat) → List Nat → Prop
  | d, [], [] => d ≤ m
  | d, b :: bs, a :: as => d ≤ a ∧ b.1 ≤ a ∧ a ≤ b.2 ∧ Fits2 m a bs as
  | _, _, _ => False
theorem fits_top {m : Nat} : ∀ {bs : List (Nat × Nat)} {as : List Nat} {d : Nat}, Fits2 m d bs as → d ≤ m
  | [], [], _, h => h
  | b :: bs, a :: as, d, h => Nat.le_trans h.1 (fits_top h.2.2.2)
  | [], _ :: _, _, h => h.elim
  | _ :: _, [], _, h => h.elim
theorem rowL_later (m : Nat) (b : Nat × Nat) (bs : List (Nat × Nat)) : ∀ (d a : Nat), d ≤ a → (rowsL m (b :: bs)).getD a 0 ≤ (rowsL m (b :: bs)).getD d 0 := by
  intro d a h
  obtain ⟨k, rfl⟩ := Nat.exists_eq_add_of_le h
  clear h
  induction k with
  | zero => exact Int.le_refl _
  | succ k ih =>
    have := rowL_get m b bs (d + k)
    have h2 := rowL_nonneg m bs (d + k)
    rw [show d + (k + 1) = d + k + 1 by omega]
    split at this <;> omega
theorem rowL_pos {m : Nat} : ∀ {bs : List (Nat × Nat)} {as : List Nat} {d : Nat}, Fits2 m d bs as → 1 ≤ (rowsL m bs).getD d 0
  | [], [], d, h => by show 1 ≤ (baseL m).getD d 0; rw [base_get, if_pos (show d ≤ m from h)]; omega
  | b :: bs, a :: as, d, h => by
    have h1 := rowL_later m b bs d a h.1
    have h2 := rowL_get m b bs a
    rw [if_pos ⟨h.2.1, h.2.2.1⟩] at h2
    have h3 := rowL_pos h.2.2.2
    have h4 := rowL_nonneg m (b :: bs) (a + 1)
    omega
  | [], _ :: _, _, h => h.elim
  | _ :: _, [], _, h => h.elim
/-- a row of numbers that the narrower bounds haven't: there are fewer -/
theorem rowL_strict {m : Nat} : ∀ {bs cs : List (Nat × Nat)} {as : List Nat} {d : Nat}, Within bs cs → Fits2 m d cs as → ¬ Fits2 m d bs as → (rowsL m bs).getD d 0 < (rowsL m cs).getD d 0
  | [], [], [], d, _, h, g => absurd h g
  | b :: bs, c :: cs, a :: as, d, w, h, g => by
    have hw : ∀ i, (rowsL m (b :: bs)).getD i 0 ≤ (rowsL m (c :: cs)).getD i 0 := rowL_mono m (bs := b :: bs) (cs := c :: cs) w
    -- at a the difference is there
    have ha : (rowsL m (b :: bs)).getD a 0 < (rowsL m (c :: cs)).getD a 0 := by
      have e1 := rowL_get m b bs a
      have e2 := rowL_get m c cs a
      rw [if_pos ⟨h.2.1, h.2.2.1⟩] at e2
      have h5 := hw (a + 1)
      by_cases q : b.1 ≤ a ∧ a ≤ b.2
      · rw [if_pos q] at e1
        have := rowL_strict w.2.2 h.2.2.2 (fun z => g ⟨h.1, q.1, q.2, z⟩)
        omega
      · rw [if_neg q] at e1
        have := rowL_pos h.2.2.2
        omega
    obtain ⟨k, hk⟩ := Nat.exists_eq_add_of_le h.1
    subst hk
    clear h g
    induction k with
    | zero => exact ha
    | succ k ih =>
      refine ih ?_
      rw [show d + (k + 1) = d + k + 1 by omega] at ha
      have e1 := rowL_get m b bs (d + k)
      have e2 := rowL_get m c cs (d + k)
      have h1 := rowL_mono m w.2.2 (d + k)
      have h2 := rowL_nonneg m cs (d + k)
      have h3 := w.1
      have h4 := w.2.1
      by_cases q : b.1 ≤ d + k ∧ d + k ≤ b.2
      · rw [if_pos q] at e1
        rw [if_pos (show c.1 ≤ d + k ∧ d + k ≤ c.2 by omega)] at e2
        omega
      · rw [if_neg q] at e1
        split at e2 <;> omega
  | [], _ :: _, _, _, w, _, _ => w.elim
  | _ :: _, [], _, _, w, _, _ => w.elim
  | [], [], _ :: _, _, _, h, _ => h.elim
  | _ :: _, _ :: _, [], _, _, h, _ => h.elim
/-- one row alone -/
theorem rowL_one {m : Nat} : ∀ {as : List Nat} {d : Nat}, Rise m d as → (rowsL m (as.map fun a => (a, a))).getD d 0 = 1
  | [], d, h => by show (baseL m).getD d 0 = 1; rw [base_get, if_pos (show d ≤ m from h)]
  | a :: as, d, h => by
    have key : ∀ i, (rowsL m ((a :: as).map fun a => (a, a))).getD i 0 = if i ≤ a then 1 else 0 := by
      refine down_ind (N := m + 2) (fun i hi => ?_) (fun i hi => ?_)
      · rw [rowL_out m _ i hi, if_neg (by have := h.2.le; omega)]
      · rw [List.map_cons, rowL_get]
        rw [List.map_cons] at hi
        rw [hi]
        by_cases q : i = a
        · subst q
          rw [if_pos ⟨Nat.le_refl _, Nat.le_refl _⟩, rowL_one h.2, if_neg (by omega), if_pos (Nat.le_refl _)]; rfl
        · rw [if_neg (by show ¬ (a ≤ i ∧ i ≤ a); omega)]
          by_cases q2 : i + 1 ≤ a
          · rw [if_pos q2, if_pos (by omega)]; rfl
          · rw [if_neg q2, if_neg (by omega)]; rfl
    rw [key, if_pos h.1]
end Pl
namespace Pl
open PySem PySem.Spec PyProof.Rows L2
/-! ### texts of orders -/
def sg : Bool → Nat
  | true => 99
  | false => 102
def sgS (b : Bool) : Str := ⟨#[sg b]⟩
def txt (o : List Bool) : Str := ⟨(o.map sg).toArray⟩
def sgD (b : Bool) : D := .str (sgS b)
theorem signs_txt (o : List Bool) : signsD (txt o) = o.map sgD := by
  unfold signsD txt
  rw [List.map_map]; rfl
theorem txt_len (o : List Bool) : (txt o).length = o.length := by
  show (o.map sg).toArray.size = o.length
  simp
theorem txt_append (a b : List Bool) : txt a ++ txt b = txt (a ++ b) := by
  show (⟨(a.map sg).toArray ++ (b.map sg).toArray⟩ : Str) = ⟨((a ++ b).map sg).toArray⟩
  simp
theorem eqv_sgc (b : Bool) : (sgD b).eqv (.str "c") = b := by cases b <;> decide +kernel
theorem eqv_sgf (b : Bool) : (sgD b).eqv (.str "f") = !b := by cases b <;> decide +kernel
theorem sh_sg (b : Bool) : (sgD b).sh := by cases b <;> (unfold D.sh; decide +kernel)
theorem sh_c : (D.str "c").sh := by unfold D.sh; decide +kernel
theorem sh_f : (D.str "f").sh := by unfold D.sh; decide +kernel
theorem eqv_words' (a b : Bool) : (D.str (wordS a)).eqv (.str (wordS b)) = (a == b) := by cases a <;> cases b <;> decide +kernel
theorem sh_word' (c : Bool) : (D.str (wordS c)).sh := by cases c with | true => exact sh_cut | false => exact sh_fill
theorem atI_get {ns : List Int} {j : Nat} (h : j < ns.length) : atI (dI ns) ((j : Nat) : Int) = some (.int (ns.getD j 0)) := atI_ints' h
/-! ### almanac_of -/
def g_almanac_of : FA := fun ds C => ∃ d cuts e fills o, ds = [d, e, .str (txt o)] ∧ Sq d cuts ∧ Sq e fills ∧ cT o ≤ cuts.length ∧ cF o ≤ fills.length ∧ o.length ≤ 900 ∧ ∀ p, C (.own p (windsD (almL cuts fills 0 0 o)))
theorem rd_almanac_of : ∀ ds C, ds.length = 3 → g_almanac_of ds C → T_almanac_of { nx := fun _ => C (.val .non), rt := fun c _ => C c } (startA N_almanac_of ds) := by
  rintro ds C - ⟨d, cuts, e, fills, o, rfl, hd, he, hc, hf, hl, hC⟩
  have h2 : (2 : Nat) ≤ sizeLine := by decide
  have ix : ∀ {d : D} {ns : List Int} {j : Nat} {Q : D → Prop}, Sq d ns → j < ns.length → Q (.int (ns.getD j 0)) → fIx d (.int ((j : Nat) : Int)) Q := by
    intro d ns j Q hd hj hq
    rcases hd with rfl | rfl
    · exact ⟨_, atI_get hj, hq⟩
    · exact ⟨_, atI_get hj, hq⟩
  refine ⟨by show (0 : Nat) ≤ sizeLine; decide, fun b => ?_⟩
  show forW _ _ _ (signsD (txt o)) _
  rw [signs_txt]
  refine for_inv (fun ds ρ => ∃ (done rest : List Bool) (w : Option Cell), ds = rest.map sgD ∧ o = done ++ rest ∧ ρ = [some (.val d), some (.val e), some (.val (.str (txt o))), some (.own b (windsD (almL cuts fills 0 0 done))), some (.val (.int ((cT done : Nat) : Int))), some (.val (.int ((cF done : Nat) : Int))), w]) (fun x r ρ K hK hI => ?_) (fun ρ hI => ?_) _ _ ⟨[], o, none, rfl, rfl, rfl⟩
  · obtain ⟨done, rest, w, e1, e2, rfl⟩ := hI
    cases rest with
    | nil => cases e1
    | cons s rest =>
      cases e1
      have hT : cT done + cT (s :: rest) = cT o := by rw [e2, cT_append]
      have hF : cF done + cF (s :: rest) = cF o := by rw [e2, cF_append]
      have hlen : done.length + (rest.length + 1) = o.length := by rw [e2]; simp
      have hz : (windsD (almL cuts fills 0 0 done)).length < sizeLine := small1000 (by rw [windsD_len, almL_len]; omega)
      refine ⟨sh_sg s, sh_c, ?_⟩
      cases s with
      | true =>
        have hT : cT done + (cT rest + 1) = cT o := hT
        refine ifT (eqv_sgc true) ?_
        refine ix hd (by omega) ⟨h2, _, rfl, hz, ?_⟩
        refine ⟨_, rfl, hK _ ⟨done ++ [true], rest, some (.val (sgD true)), rfl, by rw [e2]; simp, ?_⟩⟩
        rw [almL_snocT, ← windsD_append, cT_append, cF_append, Nat.zero_add]
        show [some (Cell.val d), some (.val e), some (.val (.str (txt o))), some (.own b (windsD (almL cuts fills 0 0 done) ++ [windD true (cuts.getD (cT done) 0)])), some (.val (.int (((cT done : Nat) : Int) + 1))), some (.val (.int ((cF done : Nat) : Int))), some (.val (sgD true))] = _
        rfl
      | false =>
        have hF : cF done + (cF rest + 1) = cF o := hF
        refine ifF (eqv_sgc false) ?_
        refine ix he (by omega) ⟨h2, _, rfl, hz, ?_⟩
        refine ⟨_, rfl, hK _ ⟨done ++ [false], rest, some (.val (sgD false)), rfl, by rw [e2]; simp, ?_⟩⟩
        rw [almL_snocF, ← windsD_append, cT_append, cF_append, Nat.zero_add]
        rfl
  · obtain ⟨done, rest, w, e1, e2, rfl⟩ := hI
    cases rest with
    | cons s rest => cases e1
    | nil =>
      rw [List.append_nil] at e2
      subst e2
      exact hC b
/-! ### words that clash -/
def wordD (w : Wo) : D := .tup [.str (wordS w.1), .int ((w.2.1 : Nat) : Int), .int ((w.2.2 : Nat) : Int)]
def wordsD (ws : List Wo) : List D := ws.map wordD
theorem wordsD_len (ws : List Wo) : (wordsD ws).length = ws.length := by simp [wordsD]
def Ws (d : D) (ws : List Wo) : Prop := d = .lst (wordsD ws) ∨ d = .tup (wordsD ws)
def g_are_contrary : FA := fun ds C => ∃ u v, ds = [wordD u, wordD v] ∧ C (.val (.bl (contr u v)))
theorem bl_le {a b : Nat} : decide (((a : Nat) : Int) ≤ ((b : Nat) : Int)) = decide (a ≤ b) := decide_eq_decide.mpr (by omega)
theorem rd_are_contrary : ∀ ds C, ds.length = 2 → g_are_contrary ds C → T_are_contrary { nx := fun _ => C (.val .non), rt := fun c _ => C c } (startA N_are_contrary ds) := by
  rintro ds C - ⟨⟨a, c, f⟩, ⟨a', c', f'⟩, rfl, hC⟩
  have h2 : (2 : Nat) ≤ sizeLine := by decide
  refine ⟨_, rfl, _, rfl, sh_word' a, sh_word' a', ?_⟩
  refine ifB (fun h => ?_) (fun h => ?_)
  · rw [show (D.str (wordS a)).eqv (.str (wordS a')) = _ from eqv_words' a a'] at h
    have h : a = a' := by simpa using h
    subst h
    have e : contr (a, c, f) (a, c', f') = false := by cases a <;> rfl
    rw [e] at hC
    exact hC
  · rw [show (D.str (wordS a)).eqv (.str (wordS a')) = _ from eqv_words' a a'] at h
    have h : a ≠ a' := by simpa using h
    refine ⟨_, rfl, sh_word' a, sh_cut, ?_⟩
    cases a with
    | true =>
      have e : a' = false := by cases a' <;> simp at h ⊢
      subst e
      refine ifT (show (D.str (wordS true)).eqv (.str (wordS true)) = true from eqv_words' true true) ⟨h2, rfl, rfl, ?_⟩
      have e : contr (true, c, f) (false, c', f') = (decide (c' ≤ c) && decide (f ≤ f')) := rfl
      rw [e] at hC
      refine ⟨_, rfl, _, rfl, ifB (fun q => ?_) (fun q => ?_)⟩
      · rw [bl_le] at q; rw [q] at hC
        refine ⟨_, rfl, _, rfl, ?_⟩
        show C (.val (.bl (decide (((f : Nat) : Int) ≤ ((f' : Nat) : Int)))))
        rw [bl_le]; exact hC
      · rw [bl_le] at q; rw [q] at hC; exact hC
    | false =>
      have e : a' = true := by cases a' <;> simp at h ⊢
      subst e
      refine ifF (show (D.str (wordS false)).eqv (.str (wordS true)) = false from eqv_words' false true) ⟨h2, rfl, rfl, ?_⟩
      have e : contr (false, c, f) (true, c', f') = (decide (c ≤ c') && decide (f' ≤ f)) := rfl
      rw [e] at hC
      refine ⟨_, rfl, _, rfl, ifB (fun q => ?_) (fun q => ?_)⟩
      · rw [bl_le] at q; rw [q] at hC
        refine ⟨_, rfl, _, rfl, ?_⟩
        show C (.val (.bl (decide (((f' : Nat) : Int) ≤ ((f : Nat) : Int)))))
        rw [bl_le]; exact hC
      · rw [bl_le] at q; rw [q] at hC; exact hC
def NoClash (ws : List Wo) : Prop := ∀ u ∈ ws, ∀ v ∈ ws, contr u v = false
theorem atI_words {ws : List Wo} {j : Nat} {w : Wo} (h : ws[j]? = some w) : atI (wordsD ws) ((j : Nat) : Int) = some (wordD w) := by
  refine atI_nat ?_
  unfold wordsD; rw [List.getElem?_map, h]; rfl
def g_first_clash : FA := fun ds C => ∃ d ws, ds = [d] ∧ Ws d ws ∧ NoClash ws ∧ ws.length ≤ 1000 ∧ C (.val .non)
theorem rd_first_clash : ∀ ds C, ds.length = 1 → g_first_clash ds C → T_first_clash g_are_contrary { nx := fun _ => C (.val .non), rt := fun c _ => C c } (startA N_first_clash ds) := by
  rintro ds C - ⟨d, ws, rfl, hd, hn, hl, hC⟩
  have ix : ∀ {j : Nat} {w : Wo} {Q : D → Prop}, ws[j]? = some w → Q (wordD w) → fIx d (.int ((j : Nat) : Int)) Q := by
    intro j w Q hj hq
    rcases hd with rfl | rfl
    · exact ⟨_, atI_words hj, hq⟩
    · exact ⟨_, atI_words hj, hq⟩
  have key : ∀ (P : PEnds), (∀ ρ, P.nx ρ) → forW (hName 1) (pFor (jRng2 (pCons (pOp fAdd (pVar 1) (pC (.int 1))) (pCons (pLenO 0) pNil))) (hName 2) (pIfS (pTest (pFrz (pCallA 2 g_are_contrary (pCons (pIxO 0 (pVar 1)) (pCons (pIxO 0 (pVar 2)) pNil))))) (pRet (pVal (pTup (pCons (pVar 1) (pCons (pVar 2) pNil))))) pNext)) P (rangeD 0 ws.length) [some (.val d), none, none] := by
    intro P hP
    rw [rangeD_map]
    refine for_inv (fun ds ρ => (∀ x ∈ ds, ∃ i : Nat, x = .int i ∧ i < ws.length) ∧ ∃ w1 w2, ρ = [some (.val d), w1, w2]) (fun x r ρ K hK hI => ?_) (fun ρ hI => hP ρ) _ _ ⟨fun x hx => ?_, _, _, rfl⟩
    · obtain ⟨hx, w1, w2, rfl⟩ := hI
      obtain ⟨i, rfl, hi⟩ := hx x (by simp)
      have inner : forW (hName 2) (pIfS (pTest (pFrz (pCallA 2 g_are_contrary (pCons (pIxO 0 (pVar 1)) (pCons (pIxO 0 (pVar 2)) pNil))))) (pRet (pVal (pTup (pCons (pVar 1) (pCons (pVar 2) pNil))))) pNext) { P with nx := K, ct := K, bk := P.nx } (rangeD ((i : Int) + 1) (((ws.length : Nat) : Int) - ((i : Int) + 1)).toNat) [some (.val d), some (.val (.int (i : Int))), w2] := by
        refine for_inv (fun ds ρ => (∀ x ∈ ds, ∃ j : Nat, x = .int j ∧ j < ws.length) ∧ ∃ w2, ρ = [some (.val d), some (.val (.int (i : Int))), w2]) (fun x2 r2 ρ K2 hK2 hI2 => ?_) (fun ρ hI2 => ?_) _ _ ⟨fun x2 hx2 => ?_, _, rfl⟩
        · obtain ⟨hx2, w2, rfl⟩ := hI2
          obtain ⟨j, rfl, hj⟩ := hx2 x2 (by simp)
          refine ix (List.getElem?_eq_getElem hi) (ix (List.getElem?_eq_getElem hj) ⟨rfl, ws[i], ws[j], rfl, ifF (hn _ (List.getElem_mem hi) _ (List.getElem_mem hj)) ?_⟩)
          exact hK2 _ ⟨fun y hy => hx2 y (by simp [hy]), _, rfl⟩
        · obtain ⟨_, w2, rfl⟩ := hI2
          exact hK _ ⟨fun y hy => hx y (by simp [hy]), _, _, rfl⟩
        · unfold rangeD at hx2
          obtain ⟨j, hj, rfl⟩ := List.mem_map.mp hx2
          have := List.mem_range.mp hj
          exact ⟨i + 1 + j, by congr 1, by omega⟩
      rcases hd with rfl | rfl
      · refine ⟨⟨by show (-(2 ^ 62) : Int) ≤ (i : Int) + 1; omega, by show (i : Int) + 1 < 2 ^ 62; omega, by show (-(2 ^ 62) : Int) ≤ (((wordsD ws).length : Nat) : Int); rw [wordsD_len]; omega, by show (((wordsD ws).length : Nat) : Int) < 2 ^ 62; rw [wordsD_len]; omega⟩, ?_⟩
        show forW _ _ _ (rangeD ((i : Int) + 1) ((((wordsD ws).length : Nat) : Int) - ((i : Int) + 1)).toNat) _
        rw [wordsD_len]; exact inner
      · refine ⟨⟨by show (-(2 ^ 62) : Int) ≤ (i : Int) + 1; omega, by show (i : Int) + 1 < 2 ^ 62; omega, by show (-(2 ^ 62) : Int) ≤ (((wordsD ws).length : Nat) : Int); rw [wordsD_len]; omega, by show (((wordsD ws).length : Nat) : Int) < 2 ^ 62; rw [wordsD_len]; omega⟩, ?_⟩
        show forW _ _ _ (rangeD ((i : Int) + 1) ((((wordsD ws).length : Nat) : Int) - ((i : Int) + 1)).toNat) _
        rw [wordsD_len]; exact inner
    · obtain ⟨y, hy, rfl⟩ := List.mem_map.mp hx
      obtain ⟨j, hj, rfl⟩ := mem_rng hy
      exact ⟨j, rfl, hj⟩
  have b1 : (-(2 ^ 62) : Int) ≤ (((wordsD ws).length : Nat) : Int) := by rw [wordsD_len]; omega
  have b2 : (((wordsD ws).length : Nat) : Int) < 2 ^ 62 := by rw [wordsD_len]; omega
  have b3 : ((((wordsD ws).length : Nat) : Int)).toNat = ws.length := by rw [wordsD_len]; omega
  rcases hd with rfl | rfl
  · refine ⟨b1, b2, ?_⟩
    rw [b3]
    exact key _ fun ρ => hC
  · refine ⟨b1, b2, ?_⟩
    rw [b3]
    exact key _ fun ρ => hC
def g_refuse_clash : FA := fun ds C => ∃ d ws, ds = [d] ∧ Ws d ws ∧ NoClash ws ∧ ws.length ≤ 1000 ∧ C (.val .non)
theorem rd_refuse_clash : ∀ ds C, ds.length = 1 → g_refuse_clash ds C → T_refuse_clash g_first_clash { nx := fun _ => C (.val .non), rt := fun c _ => C c } (startA N_refuse_clash ds) := by
  rintro ds C - ⟨d, ws, rfl, hd, hn, hl, hC⟩
  exact ⟨rfl, d, ws, rfl, hd, hn, hl, hC⟩
end Pl
namespace Pl
open PySem PySem.Spec PyProof.Rows L2
/-! ### words walked -/
theorem lcW_words {vs : List Nat} {g : TGp} {tt : TTp} {te : TEp} {Q : List D → Ro → Prop} {p : Wo → Bool} {f : Wo → D} {ρ : Ro} : ∀ (ws : List Wo) (acc : List D),
    (∀ w ∈ ws, ∀ K : Bool → Ro → Prop, (∀ ρ3, restore ρ ρ3 vs = ρ → (p w = true → ∀ K2 : D → Ro → Prop, (∀ ρ4, restore ρ ρ4 vs = ρ → K2 (f w) ρ4) → te ρ3 K2) → K (p w) ρ3) → g (wordD w) (wipeP ρ vs) fun ρ2 => tt ρ2 K) → acc.length + ws.length ≤ 1000 → Q (acc ++ (ws.filter p).map f) ρ → lcW vs g tt te Q (wordsD ws) acc ρ
  | [], acc, _, _, hQ => by
    have hQ : Q (acc ++ []) ρ := hQ
    rw [List.append_nil] at hQ
    exact hQ
  | d :: ds, acc, h, hl, hQ => by
    have hl' : acc.length + (ds.length + 1) ≤ 1000 := hl
    refine h d (by simp) _ fun ρ3 e3 ht => ?_
    cases hp : p d with
    | true =>
      refine ite_ti (ht hp _ fun ρ4 e4 => ⟨small1000 (by omega), ?_⟩)
      rw [e4]
      refine lcW_words ds _ (fun x hx => h x (by simp [hx])) (by rw [List.length_append]; show acc.length + 1 + ds.length ≤ 1000; omega) ?_
      rw [List.filter_cons_of_pos hp, List.map_cons] at hQ
      rw [List.append_assoc]
      exact hQ
    | false =>
      refine ite_fi ?_
      rw [e3]
      refine lcW_words ds _ (fun x hx => h x (by simp [hx])) (by omega) ?_
      rw [List.filter_cons_of_neg (by rw [hp]; simp)] at hQ
      exact hQ
theorem bestDD_max : ∀ l : List Nat, bestDD max (.int 0) (l.map fun (n : Nat) => (n : Int)) = .int ((l.foldl max 0 : Nat) : Int) := by
  have key : ∀ (l : List Nat) (a : Nat), (l.map fun (n : Nat) => (n : Int)).foldl max (a : Int) = ((l.foldl max a : Nat) : Int) := by
    intro l
    induction l with
    | nil => intro a; rfl
    | cons x l ih =>
      intro a
      rw [List.map_cons, List.foldl_cons, List.foldl_cons, ← ih]
      congr 1
      omega
  intro l
  cases l with
  | nil => rfl
  | cons x l =>
    show D.int ((l.map fun (n : Nat) => (n : Int)).foldl max (x : Int)) = .int (((x :: l).foldl max 0 : Nat) : Int)
    rw [key, List.foldl_cons, Nat.zero_max]
theorem bestDD_min (m : Nat) : ∀ l : List Nat, (∀ x ∈ l, x ≤ m) → bestDD min (.int (m : Int)) (l.map fun (n : Nat) => (n : Int)) = .int ((l.foldl min m : Nat) : Int) := by
  have key : ∀ (l : List Nat) (a : Nat), (l.map fun (n : Nat) => (n : Int)).foldl min (a : Int) = ((l.foldl min a : Nat) : Int) := by
    intro l
    induction l with
    | nil => intro a; rfl
    | cons x l ih =>
      intro a
      rw [List.map_cons, List.foldl_cons, List.foldl_cons, ← ih]
      congr 1
      omega
  intro l hl
  cases l with
  | nil => rfl
  | cons x l =>
    show D.int ((l.map fun (n : Nat) => (n : Int)).foldl min (x : Int)) = .int (((x :: l).foldl min m : Nat) : Int)
    rw [key, List.foldl_cons, Nat.min_eq_right (hl x (by simp))]
def g_least_ahead : FA := fun ds C => ∃ d ws f, ds = [d, .int ((f : Nat) : Int)] ∧ Ws d ws ∧ ws.length ≤ 1000 ∧ C (.val (.int ((loN ws f : Nat) : Int)))
theorem rd_least_ahead : ∀ ds C, ds.length = 2 → g_least_ahead ds C → T_least_ahead { nx := fun _ => C (.val .non), rt := fun c _ => C c } (startA N_least_ahead ds) := by
  rintro ds C - ⟨d, ws, f, rfl, hd, hl, hC⟩
  have key : lcW [2, 3, 4] (hTup 3 (hCons (hName 2) (hCons (hName 3) (hCons (hName 4) hNil)))) (pAnd (pTest (pOp fEq (pVar 2) (pC (.str "cut")))) (pTest (pOp fLe (pVar 4) (pVar 1)))) (pOp fAdd (pVar 3) (pC (.int 1))) (fun acc ρ2 => ∃ ns, acc = ns.map D.int ∧ C (.val (bestDD max (.int 0) ns))) (wordsD ws) [] [some (.val d), some (.val (.int (f : Int))), none, none, none] := by
    refine lcW_words (p := fun w => w.1 && decide (w.2.2 ≤ f)) (f := fun w => .int (((w.2.1 + 1 : Nat)) : Int)) ws [] (fun w _ K hK => ?_) (by simpa using hl) ?_
    · refine ⟨rfl, rfl, sh_word' w.1, sh_cut, ?_⟩
      refine ifB (fun h => ?_) (fun h => ?_)
      · have h : w.1 = true := by rw [show (D.str (wordS w.1)).eqv (.str "cut") = _ from eqv_words' w.1 true] at h; simpa using h
        have := hK [some (.val d), some (.val (.int (f : Int))), some (.val (.str (wordS w.1))), some (.val (.int ((w.2.1 : Nat) : Int))), some (.val (.int ((w.2.2 : Nat) : Int)))] rfl fun _ K2 hK2 => hK2 _ rfl
        rw [h] at this
        show K (decide (((w.2.2 : Nat) : Int) ≤ (f : Int))) _
        rw [bl_le, h]
        exact this
      · have h : w.1 = false := by rw [show (D.str (wordS w.1)).eqv (.str "cut") = _ from eqv_words' w.1 true] at h; simpa using h
        have := hK [some (.val d), some (.val (.int (f : Int))), some (.val (.str (wordS w.1))), some (.val (.int ((w.2.1 : Nat) : Int))), some (.val (.int ((w.2.2 : Nat) : Int)))] rfl fun _ K2 hK2 => hK2 _ rfl
        rw [h] at this
        rw [h]
        exact this
    · refine ⟨((ws.filter fun w => w.1 && decide (w.2.2 ≤ f)).map fun w => w.2.1 + 1).map fun (n : Nat) => (n : Int), ?_, ?_⟩
      · rw [List.nil_append, List.map_map, List.map_map]; rfl
      · rw [bestDD_max]; exact hC
  rcases hd with rfl | rfl <;> exact key
def g_most_ahead : FA := fun ds C => ∃ d cuts e ws f, ds = [d, e, .int ((f : Nat) : Int)] ∧ Sq d cuts ∧ Ws e ws ∧ ws.length ≤ 1000 ∧ (∀ w ∈ ws, w.2.1 < cuts.length) ∧ C (.val (.int ((hiN cuts.length ws f : Nat) : Int)))
theorem rd_most_ahead : ∀ ds C, ds.length = 3 → g_most_ahead ds C → T_most_ahead { nx := fun _ => C (.val .non), rt := fun c _ => C c } (startA N_most_ahead ds) := by
  rintro ds C - ⟨d, cuts, e, ws, f, rfl, hd, he, hl, hw, hC⟩
  have key : ∀ Q : List D → Ro → Prop, Q ((ws.filter fun w => !w.1 && decide (f ≤ w.2.2)).map fun w => .int ((w.2.1 : Nat) : Int)) [some (.val d), some (.val e), some (.val (.int (f : Int))), none, none, none] → lcW [3, 4, 5] (hTup 3 (hCons (hName 3) (hCons (hName 4) (hCons (hName 5) hNil)))) (pAnd (pTest (pOp fEq (pVar 3) (pC (.str "fill")))) (pTest (pOp fGe (pVar 5) (pVar 2)))) (pVar 4) Q (wordsD ws) [] [some (.val d), some (.val e), some (.val (.int (f : Int))), none, none, none] := by
    intro Q hQ
    refine lcW_words (p := fun w => !w.1 && decide (f ≤ w.2.2)) (f := fun w => .int ((w.2.1 : Nat) : Int)) ws [] (fun w _ K hK => ?_) (by simpa using hl) (by rw [List.nil_append]; exact hQ)
    refine ⟨rfl, rfl, sh_word' w.1, sh_fill, ?_⟩
    refine ifB (fun h => ?_) (fun h => ?_)
    · have h : w.1 = false := by rw [show (D.str (wordS w.1)).eqv (.str "fill") = _ from eqv_words' w.1 false] at h; simpa using h
      have := hK [some (.val d), some (.val e), some (.val (.int (f : Int))), some (.val (.str (wordS w.1))), some (.val (.int ((w.2.1 : Nat) : Int))), some (.val (.int ((w.2.2 : Nat) : Int)))] rfl fun _ K2 hK2 => hK2 _ rfl
      rw [h] at this
      show K (decide ((f : Int) ≤ ((w.2.2 : Nat) : Int))) _
      rw [bl_le, h]
      exact this
    · have h : w.1 = true := by rw [show (D.str (wordS w.1)).eqv (.str "fill") = _ from eqv_words' w.1 false] at h; simpa using h
      have := hK [some (.val d), some (.val e), some (.val (.int (f : Int))), some (.val (.str (wordS w.1))), some (.val (.int ((w.2.1 : Nat) : Int))), some (.val (.int ((w.2.2 : Nat) : Int)))] rfl fun _ K2 hK2 => hK2 _ rfl
      rw [h] at this
      rw [h]
      exact this
  have fin : C (.val (bestDD min (.int (((dI cuts).length : Nat) : Int)) (((ws.filter fun w => !w.1 && decide (f ≤ w.2.2)).map fun w => w.2.1).map fun (n : Nat) => (n : Int)))) := by
    rw [ints_len, bestDD_min]
    · exact hC
    · intro x hx
      obtain ⟨w, hm, rfl⟩ := List.mem_map.mp hx
      exact Nat.le_of_lt (hw w (List.mem_filter.mp hm).1)
  have e1 : ((ws.filter fun w => !w.1 && decide (f ≤ w.2.2)).map fun w => D.int ((w.2.1 : Nat) : Int)) = (((ws.filter fun w => !w.1 && decide (f ≤ w.2.2)).map fun w => w.2.1).map fun (n : Nat) => (n : Int)).map D.int := by
    rw [List.map_map, List.map_map]; rfl
  rcases hd with rfl | rfl <;> rcases he with rfl | rfl
  all_goals exact key _ ⟨_, e1, fin⟩
def bndL (m n : Nat) (ws : List Wo) : List (Nat × Nat) := (List.range' 0 n).map fun f => (loN ws f, hiN m ws f)
def bndD (b : Nat × Nat) : D := .tup [.int ((b.1 : Nat) : Int), .int ((b.2 : Nat) : Int)]
def g_bounds : FA := fun ds C => ∃ d cuts e fills k ws, ds = [d, e, k] ∧ Sq d cuts ∧ Sq e fills ∧ Ws k ws ∧ NoClash ws ∧ ws.length ≤ 1000 ∧ fills.length ≤ 900 ∧ InB cuts.length fills.length ws ∧ ∀ p, C (.own p ((bndL cuts.length fills.length ws).map bndD))
theorem rd_bounds : ∀ ds C, ds.length = 3 → g_bounds ds C → T_bounds g_refuse_clash g_least_ahead g_most_ahead { nx := fun _ => C (.val .non), rt := fun c _ => C c } (startA N_bounds ds) := by
  rintro ds C - ⟨d, cuts, e, fills, k, ws, rfl, hd, he, hk, hn, hl, hfl, hb, hC⟩
  have h2 : (2 : Nat) ≤ sizeLine := by decide
  have key : lcW [3] (hName 3) pYes (pTup (pCons (pFrz (pCallA 2 g_least_ahead (pCons (pVar 2) (pCons (pVar 3) pNil)))) (pCons (pFrz (pCallA 3 g_most_ahead (pCons (pVar 0) (pCons (pVar 2) (pCons (pVar 3) pNil))))) pNil))) (fun acc ρ2 => ∀ p, C (.own p acc)) (rangeD 0 fills.length) [] [some (.val d), some (.val e), some (.val k), none] := by
    rw [rangeD_map]
    refine lcW_ints (h := fun f => bndD (loN ws f.toNat, hiN cuts.length ws f.toNat)) (fun x hx K hK => ?_) (by rw [List.length_map, List.length_range]; omega) (fun p => ?_)
    · obtain ⟨f, hf, rfl⟩ := mem_rng hx
      refine ⟨rfl, k, ws, f, rfl, hk, hl, rfl, d, cuts, k, ws, f, rfl, hd, hk, hl, fun w hw => (hb w hw).1, h2, hK _ rfl⟩
    · have := hC p
      unfold bndL at this
      rw [List.map_map] at this ⊢
      rw [← List.range_eq_range'] at this
      exact this
  have r1 : (-(2 ^ 62) : Int) ≤ (((dI fills).length : Nat) : Int) := by rw [ints_len]; omega
  have r2 : (((dI fills).length : Nat) : Int) < 2 ^ 62 := by rw [ints_len]; omega
  have r3 : (((dI fills).length : Nat) : Int).toNat = fills.length := by rw [ints_len]; omega
  refine ⟨rfl, k, ws, rfl, hk, hn, hl, ?_⟩
  rcases he with rfl | rfl
  · exact ⟨r1, r2, by rw [r3]; exact key⟩
  · exact ⟨r1, r2, by rw [r3]; exact key⟩
end Pl
namespace Pl
open PySem PySem.Spec PyProof.Rows L2
/-! ### order_with -/
theorem str_ext {a b : Str} (h : a.cps.toList = b.cps.toList) : a = b := by
  obtain ⟨x⟩ := a
  obtain ⟨y⟩ := b
  have : x = y := Array.toList_inj.mp h
  rw [this]
theorem lit_c : ("c" : Str) = ⟨#[99]⟩ := by decide +kernel
theorem lit_f : ("f" : Str) = txt [false] := by decide +kernel
theorem lit_e : ("" : Str) = ⟨#[]⟩ := by decide +kernel
theorem mul_c (n : Nat) : Txt.mul ("c" : Str) ((n : Nat) : Int) = txt (List.replicate n true) := by
  refine str_ext ?_
  rw [lit_c, mul_one_list]
  show List.replicate (Int.toNat (n : Int)) 99 = (List.replicate n true).map sg
  rw [List.map_replicate, Int.toNat_natCast]; rfl
theorem join_txt : ∀ os : List (List Bool), Txt.join ("" : Str) (os.map txt) = txt os.flatten := by
  intro os
  rw [TL.join_eq]
  induction os with
  | nil => rfl
  | cons o os ih =>
    cases os with
    | nil =>
      show txt o = txt (o ++ [])
      rw [List.append_nil]
    | cons p os =>
      show txt o ++ ("" : Str) ++ Str.join "" ((p :: os).map txt) = txt (o ++ (p :: os).flatten)
      rw [ih, ← txt_append]
      refine str_ext ?_
      rw [lit_e]
      show ((txt o).cps ++ #[] ++ (txt (p :: os).flatten).cps).toList = ((txt o).cps ++ (txt (p :: os).flatten).cps).toList
      simp
def dN (as : List Nat) : List D := as.map fun (a : Nat) => D.int (a : Int)
/-- the parts that order_with writes -/
def partsW (d : Nat) : List Nat → List (List Bool)
  | [] => []
  | a :: as => (List.replicate (a - d) true ++ [false]) :: partsW a as
def lastW (d : Nat) : List Nat → Nat
  | [] => d
  | a :: as => lastW a as
theorem parts_ord (m : Nat) : ∀ (as : List Nat) (d : Nat), (partsW d as).flatten ++ List.replicate (m - lastW d as) true = ordW d as m
  | [], d => rfl
  | a :: as, d => by
    show (List.replicate (a - d) true ++ [false] ++ (partsW a as).flatten) ++ List.replicate (m - lastW a as) true = List.replicate (a - d) true ++ false :: ordW a as m
    rw [← parts_ord m as a]; simp
theorem ordW_len {m d : Nat} {as : List Nat} (h : Rise m d as) : (ordW d as m).length = m - d + as.length := by rw [← cT_cF, ordW_cT h, ordW_cF]
def g_order_with : FA := fun ds C => ∃ as m, ds = [.lst (dN as), .int ((m : Nat) : Int)] ∧ Rise m 0 as ∧ m ≤ 900 ∧ as.length ≤ 900 ∧ C (.val (.str (txt (ordW 0 as m))))
theorem rd_order_with : ∀ ds C, ds.length = 2 → g_order_with ds C → T_order_with { nx := fun _ => C (.val .non), rt := fun c _ => C c } (startA N_order_with ds) := by
  rintro ds C - ⟨as, m, rfl, hr, hm, hl, hC⟩
  have hr' := hr
  have len1 : ("c" : Str).length ≤ 10 := by rw [lit_c]; decide
  refine ⟨by show (0 : Nat) ≤ sizeLine; decide, fun b => ?_⟩
  refine for_inv (fun ds ρ => ∃ (ps : List (List Bool)) (d : Nat) (rest : List Nat) (w : Option Cell), ds = dN rest ∧ ρ = [some (.val (.lst (dN as))), some (.val (.int (m : Int))), some (.own b (ps.map fun p => .str (txt p))), some (.val (.int (d : Int))), w] ∧ Rise m d rest ∧ ps ++ partsW d rest = partsW 0 as ∧ lastW d rest = lastW 0 as ∧ ps.length + rest.length = as.length) (fun x r ρ K hK hI => ?_) (fun ρ hI => ?_) _ _ ⟨[], 0, as, none, rfl, rfl, hr, rfl, rfl, by simp⟩
  · obtain ⟨ps, d, rest, w, e1, rfl, hr, e2, e3, e4⟩ := hI
    cases rest with
    | nil => cases e1
    | cons a rest =>
      cases e1
      have e4 : ps.length + (rest.length + 1) = as.length := e4
      have ham := hr.2.le
      have had := hr.1
      have e5 : ((a : Nat) : Int) - ((d : Nat) : Int) = ((a - d : Nat) : Int) := by omega
      refine ⟨mulOk_small len1 (by omega) (by omega), ?_⟩
      rw [e5, mul_c]
      refine ⟨sl1000 ?_, _, rfl, small1000 (by rw [List.length_map]; omega), ?_⟩
      · rw [lit_f, txt_len, txt_len, List.length_replicate]; show a - d + 1 ≤ 1000; omega
      rw [lit_f, txt_append]
      refine hK _ ⟨ps ++ [List.replicate (a - d) true ++ [false]], a, rest, some (.val (.int (a : Int))), rfl, ?_, hr.2, ?_, e3, by simp; omega⟩
      · rw [List.map_append]; rfl
      · rw [← e2]; simp [partsW]
  · obtain ⟨ps, d, rest, w, e1, rfl, hr, e2, e3, e4⟩ := hI
    cases rest with
    | cons a rest => cases e1
    | nil =>
      have e3 : d = lastW 0 as := e3
      rw [show partsW d [] = [] from rfl, List.append_nil] at e2
      have hd : d ≤ m := hr
      have e5 : ((m : Nat) : Int) - ((d : Nat) : Int) = ((m - d : Nat) : Int) := by omega
      have e4 : ps.length + 0 = as.length := e4
      refine ⟨mulOk_small len1 (by omega) (by omega), ?_⟩
      rw [e5, mul_c]
      refine ⟨_, rfl, small1000 (by rw [List.length_map]; omega), ?_⟩
      have e6 : (ps.map fun p => D.str (txt p)) ++ [.str (txt (List.replicate (m - d) true))] = ((ps ++ [List.replicate (m - d) true]).map txt).map D.str := by
        rw [List.map_map, List.map_append]; rfl
      refine ⟨(ps ++ [List.replicate (m - d) true]).map txt, e6, ?_, ?_⟩
      · have hs : (((ps ++ [List.replicate (m - d) true]).map txt).map (·.length)).sum = (ordW 0 as m).length := by
          rw [← parts_ord m as 0, ← e3, ← e2, List.map_map]
          have : ∀ os : List (List Bool), (os.map ((·.length) ∘ txt)).sum = os.flatten.length := by
            intro os
            induction os with
            | nil => rfl
            | cons o os ih =>
              rw [List.map_cons, List.sum_cons, ih, List.flatten_cons, List.length_append]
              show (txt o).length + _ = _
              rw [txt_len]
          rw [this, List.flatten_append, List.length_append, List.length_append]
          simp
        rw [hs, ordW_len hr']
        have : ("" : Str).length = 0 := by rw [lit_e]; rfl
        rw [this]
        omega
      · rw [join_txt]
        have : (ps ++ [List.replicate (m - d) true]).flatten = ordW 0 as m := by
          rw [← parts_ord m as 0, ← e3, ← e2, List.flatten_append]; simp
        rw [this]
        exact hC
end Pl
namespace Pl
open PySem PySem.Spec PyProof.Rows L2
/-! ### how many -/
theorem downD_succ (k : Nat) : downD (k + 1) = .int (k : Int) :: downD k := by
  unfold downD
  rw [List.range_succ_eq_map, List.map_cons, List.map_map]
  congr 1
  · show D.int (((k + 1 : Nat) : Int) - 1 - ((0 : Nat) : Int)) = .int (k : Int)
    congr 1; omega
  · apply List.map_congr_left
    intro i _
    show D.int (((k + 1 : Nat) : Int) - 1 - ((i + 1 : Nat) : Int)) = .int ((k : Int) - 1 - (i : Int))
    congr 1; omega
def g_ways_ahead : FA := fun ds C => ∃ row lo hi, ds = [.lst (dI row), .int ((lo : Nat) : Int), .int ((hi : Nat) : Int)] ∧ row.length ≤ 1000 ∧ C (.val (.lst (dI (wayL lo hi 0 row))))
theorem rd_ways_ahead : ∀ ds C, ds.length = 3 → g_ways_ahead ds C → T_ways_ahead { nx := fun _ => C (.val .non), rt := fun c _ => C c } (startA N_ways_ahead ds) := by
  rintro ds C - ⟨row, lo, hi, rfl, hl, hC⟩
  refine ⟨by show (0 : Nat) ≤ sizeLine; decide, fun b => ?_⟩
  refine ⟨row.length, by show (((dI row).length : Nat) : Int) = _; rw [ints_len], by omega, ?_⟩
  refine for_inv (fun ds ρ => ∃ (k : Nat) (w : Option Cell), ds = downD k ∧ k ≤ row.length ∧ ρ = [some (.val (.lst (dI row))), some (.val (.int (lo : Int))), some (.val (.int (hi : Int))), some (.own b (dI (wayL lo hi k (row.drop k)).reverse)), some (.val (.int ((wayL lo hi k (row.drop k)).headD 0))), w]) (fun x r ρ K hK hI => ?_) (fun ρ hI => ?_) _ _ ⟨row.length, none, rfl, Nat.le_refl _, by rw [List.drop_length]; rfl⟩
  · obtain ⟨k, w, e1, hk, rfl⟩ := hI
    cases k with
    | zero => cases e1
    | succ k =>
      rw [downD_succ] at e1
      cases e1
      have hk' : k < row.length := by omega
      have ed : row.drop k = row.getD k 0 :: row.drop (k + 1) := by
        rw [List.drop_eq_getElem_cons hk', List.getD_eq_getElem?_getD, List.getElem?_eq_getElem hk']; rfl
      have ew : wayL lo hi k (row.drop k) = ((if lo ≤ k ∧ k ≤ hi then row.getD k 0 else 0) + (wayL lo hi (k + 1) (row.drop (k + 1))).headD 0) :: wayL lo hi (k + 1) (row.drop (k + 1)) := by
        rw [ed]; rfl
      have hz : (dI (wayL lo hi (k + 1) (row.drop (k + 1))).reverse).length < sizeLine := small1000 (by rw [ints_len, List.length_reverse, wayL_len, List.length_drop]; omega)
      have fin : ∀ v : Int, v = (if lo ≤ k ∧ k ≤ hi then row.getD k 0 else 0) + (wayL lo hi (k + 1) (row.drop (k + 1))).headD 0 → K [some (.val (.lst (dI row))), some (.val (.int (lo : Int))), some (.val (.int (hi : Int))), some (.own b (dI (wayL lo hi (k + 1) (row.drop (k + 1))).reverse ++ [.int v])), some (.val (.int v)), some (.val (.int (k : Int)))] := by
        intro v hv
        refine hK _ ⟨k, some (.val (.int (k : Int))), rfl, by omega, ?_⟩
        rw [ew, ← hv, List.reverse_cons]
        show _ = [some (Cell.val (.lst (dI row))), some (.val (.int (lo : Int))), some (.val (.int (hi : Int))), some (.own b (dI ((wayL lo hi (k + 1) (row.drop (k + 1))).reverse ++ [v]))), some (.val (.int v)), some (.val (.int (k : Int)))]
        unfold dI; rw [List.map_append]; rfl
      refine ifB (fun h => ?_) (fun h => ?_)
      · rw [bl_le] at h
        refine ifB (fun h' => ?_) (fun h' => ?_)
        · rw [bl_le] at h'
          refine ⟨_, rfl, _, atI_get hk', _, rfl, hz, fin _ ?_⟩
          rw [if_pos ⟨dT h, dT h'⟩]; exact Int.add_comm _ _
        · rw [bl_le] at h'
          refine ⟨_, rfl, hz, fin _ ?_⟩
          rw [if_neg (fun z => dF h' z.2)]; omega
      · rw [bl_le] at h
        refine ⟨_, rfl, hz, fin _ ?_⟩
        rw [if_neg (fun z => dF h z.1)]; omega
  · obtain ⟨k, w, e1, hk, rfl⟩ := hI
    cases k with
    | succ k => rw [downD_succ] at e1; cases e1
    | zero =>
      show C (.val (.lst (dI (wayL lo hi 0 (row.drop 0)).reverse).reverse))
      unfold dI
      rw [← List.map_reverse, List.reverse_reverse]
      exact hC
/-- the rows of all ends of the bounds, the bare one first -/
def stackL (m : Nat) : List (Nat × Nat) → List (List Int)
  | [] => [baseL m]
  | b :: bs => stackL m bs ++ [rowsL m (b :: bs)]
theorem stack_last (m : Nat) : ∀ bs : List (Nat × Nat), ∃ r, stackL m bs = r ++ [rowsL m bs]
  | [] => ⟨[], rfl⟩
  | b :: bs => ⟨stackL m bs, rfl⟩
theorem stack_len (m : Nat) : ∀ bs : List (Nat × Nat), (stackL m bs).length = bs.length + 1
  | [] => rfl
  | b :: bs => by simp [stackL, stack_len m bs]
def lD (l : List Int) : D := .lst (dI l)
def g_ways_on : FA := fun ds C => ∃ d cuts e fills k ws, ds = [d, e, k] ∧ Sq d cuts ∧ Sq e fills ∧ Ws k ws ∧ NoClash ws ∧ ws.length ≤ 1000 ∧ cuts.length ≤ 900 ∧ fills.length ≤ 900 ∧ InB cuts.length fills.length ws ∧ C (.val (.lst ((stackL cuts.length (bndL cuts.length fills.length ws)).reverse.map lD)))
theorem rd_ways_on : ∀ ds C, ds.length = 3 → g_ways_on ds C → T_ways_on g_bounds g_ways_ahead { nx := fun _ => C (.val .non), rt := fun c _ => C c } (startA N_ways_on ds) := by
  rintro ds C - ⟨d, cuts, e, fills, k, ws, rfl, hd, he, hk, hn, hl, hcl, hfl, hb, hC⟩
  have hbl : (bndL cuts.length fills.length ws).length = fills.length := by simp [bndL]
  have loop : ∀ (b : Addr), forW (hTup 2 (hCons (hName 4) (hCons (hName 5) hNil))) (pAppend 3 (pFrz (pCallA 3 g_ways_ahead (pCons (pIxO 3 (pUn fNeg (pC (.int 1)))) (pCons (pVar 4) (pCons (pVar 5) pNil)))))) { nx := fun ρ => pRet (pVal (pUn fRev (pVar 3))) { nx := fun _ => C (.val .non), rt := fun c _ => C c } ρ, rt := fun c _ => C c } (((bndL cuts.length fills.length ws).map bndD).reverse) [some (.val d), some (.val e), some (.val k), some (.own b [lD (baseL cuts.length)]), none, none] := by
    intro b
    refine for_inv (fun ds ρ => ∃ (pre bs : List (Nat × Nat)) (w4 w5 : Option Cell), ds = (pre.map bndD).reverse ∧ bndL cuts.length fills.length ws = pre ++ bs ∧ ρ = [some (.val d), some (.val e), some (.val k), some (.own b ((stackL cuts.length bs).map lD)), w4, w5]) (fun x r ρ K hK hI => ?_) (fun ρ hI => ?_) _ _ ⟨bndL cuts.length fills.length ws, [], none, none, rfl, by simp, rfl⟩
    · obtain ⟨pre, bs, w4, w5, e1, e2, rfl⟩ := hI
      rcases List.eq_nil_or_concat pre with rfl | ⟨pre', q, rfl⟩
      · cases e1
      · rw [List.concat_eq_append, List.map_append, List.reverse_append] at e1
        rw [List.concat_eq_append] at e2
        cases e1
        obtain ⟨r0, hr0⟩ := stack_last cuts.length bs
        have hlen : pre'.length + 1 + bs.length = fills.length := by rw [← hbl, e2]; simp; omega
        have hlast : atI ((stackL cuts.length bs).map lD) (-1) = some (lD (rowsL cuts.length bs)) := by
          rw [hr0, List.map_append]; exact atI_last _ _
        refine ⟨rfl, rfl, _, _, _, rfl, rfl, hlast, rfl, rowsL cuts.length bs, q.1, q.2, rfl, by rw [rowsL_len]; omega, _, rfl, small1000 (by rw [List.length_map, stack_len]; omega), ?_⟩
        refine hK _ ⟨pre', q :: bs, some (.val (.int (q.1 : Int))), some (.val (.int (q.2 : Int))), rfl, by rw [e2]; simp, ?_⟩
        show _ = [some (Cell.val d), some (.val e), some (.val k), some (.own b ((stackL cuts.length bs ++ [rowsL cuts.length (q :: bs)]).map lD)), some (.val (.int (q.1 : Int))), some (.val (.int (q.2 : Int)))]
        rw [List.map_append]; rfl
    · obtain ⟨pre, bs, w4, w5, e1, e2, rfl⟩ := hI
      have : pre = [] := by
        cases pre with
        | nil => rfl
        | cons q pre => simp at e1
      subst this
      rw [List.nil_append] at e2
      show C (.val (.lst ((stackL cuts.length bs).map lD).reverse))
      rw [← List.map_reverse, ← e2]
      exact hC
  have e0 : (List.replicate (((((dI cuts).length : Nat) : Int) + 1).toNat) [D.int 1]).flatten ++ [.int 0] = dI (baseL cuts.length) := by
    rw [ints_len, show (((cuts.length : Nat) : Int) + 1).toNat = cuts.length + 1 by omega]
    unfold baseL dI
    rw [List.map_append, List.map_replicate]
    congr 1
    generalize cuts.length + 1 = n
    induction n with
    | zero => rfl
    | succ n ih => rw [List.replicate_succ, List.flatten_cons, ih]; rfl
  have h1 : (1 : Nat) ≤ sizeLine := by decide
  have rest : ∀ (x : List D), x = dI (baseL cuts.length) → ∀ b, pFor (jSeq (pUn fRev (pFrz (pCallA 3 g_bounds (pCons (pVar 0) (pCons (pVar 1) (pCons (pVar 2) pNil))))))) (hTup 2 (hCons (hName 4) (hCons (hName 5) hNil))) (pAppend 3 (pFrz (pCallA 3 g_ways_ahead (pCons (pIxO 3 (pUn fNeg (pC (.int 1)))) (pCons (pVar 4) (pCons (pVar 5) pNil)))))) { nx := fun ρ => pRet (pVal (pUn fRev (pVar 3))) { nx := fun _ => C (.val .non), rt := fun c _ => C c } ρ, rt := fun c _ => C c } [some (.val d), some (.val e), some (.val k), some (.own b [.lst x]), none, none] := by
    intro x hx b
    subst hx
    exact ⟨rfl, d, cuts, e, fills, k, ws, rfl, hd, he, hk, hn, hl, hfl, hb, fun p => loop b⟩
  have k0 : (0 : Int) ≤ (((dI cuts).length : Nat) : Int) + 1 := by omega
  have k1 : (((dI cuts).length : Nat) : Int) + 1 ≤ 1000 := by rw [ints_len]; omega
  have k2 : ((List.replicate (((((dI cuts).length : Nat) : Int) + 1).toNat) [D.int 1]).flatten).length + 1 ≤ sizeLine := by
    have := congrArg List.length e0
    rw [List.length_append] at this
    have e : (dI (baseL cuts.length)).length = cuts.length + 2 := by rw [ints_len]; simp [baseL]
    rw [e] at this
    have this : _ + 1 = cuts.length + 2 := this
    exact sl1000 (by omega)
  rcases hd with rfl | rfl
  · exact ⟨h1, k0, k1, by show (1 : Nat) ≤ 1000; decide, h1, k2, h1, fun b => rest _ e0 b⟩
  · exact ⟨h1, k0, k1, by show (1 : Nat) ≤ 1000; decide, h1, k2, h1, fun b => rest _ e0 b⟩
def g_orders_many : FA := fun ds C => ∃ d cuts e fills k ws, ds = [d, e, k] ∧ Sq d cuts ∧ Sq e fills ∧ Ws k ws ∧ NoClash ws ∧ ws.length ≤ 1000 ∧ cuts.length ≤ 900 ∧ fills.length ≤ 900 ∧ InB cuts.length fills.length ws ∧ C (.val (.int (manyL cuts.length (bndL cuts.length fills.length ws))))
theorem rd_orders_many : ∀ ds C, ds.length = 3 → g_orders_many ds C → T_orders_many g_ways_on { nx := fun _ => C (.val .non), rt := fun c _ => C c } (startA N_orders_many ds) := by
  rintro ds C - ⟨d, cuts, e, fills, k, ws, rfl, hd, he, hk, hn, hl, hcl, hfl, hb, hC⟩
  obtain ⟨r0, hr0⟩ := stack_last cuts.length (bndL cuts.length fills.length ws)
  have h0 : atI ((stackL cuts.length (bndL cuts.length fills.length ws)).reverse.map lD) 0 = some (lD (rowsL cuts.length (bndL cuts.length fills.length ws))) := by
    rw [hr0, List.reverse_append]; exact atI_zero _ _
  have hlen := rowsL_len cuts.length (bndL cuts.length fills.length ws)
  have h1 : atI (dI (rowsL cuts.length (bndL cuts.length fills.length ws))) 0 = some (.int (manyL cuts.length (bndL cuts.length fills.length ws))) := by
    unfold manyL
    cases hrow : rowsL cuts.length (bndL cuts.length fills.length ws) with
    | nil => rw [hrow] at hlen; simp at hlen
    | cons x r => exact atI_zero _ _
  exact ⟨rfl, d, cuts, e, fills, k, ws, rfl, hd, he, hk, hn, hl, hcl, hfl, hb, _, h0, _, h1, hC⟩
end Pl
namespace Pl
open PySem PySem.Spec PyProof.Rows L2
/-! ### the ends of all orders -/
theorem lcW_bnds {vs : List Nat} {g : TGp} {te : TEp} {Q : List D → Ro → Prop} {h : Nat × Nat → D} {ρ : Ro} : ∀ (bs : List (Nat × Nat)) (acc : List D), (∀ b ∈ bs, ElemOk vs g te ρ (bndD b) (h b)) → acc.length + bs.length ≤ 1000 → Q (acc ++ bs.map h) ρ → lcW vs g pYes te Q (bs.map bndD) acc ρ
  | [], acc, _, _, hQ => by
    have hQ : Q (acc ++ []) ρ := hQ
    rw [List.append_nil] at hQ
    exact hQ
  | b :: bs, acc, hs, hl, hQ => by
    have hl' : acc.length + (bs.length + 1) ≤ 1000 := hl
    refine hs b (by simp) _ fun ρ4 e => ⟨small1000 (by omega), ?_⟩
    rw [e]
    refine lcW_bnds bs _ (fun x hx => hs x (by simp [hx])) (by rw [List.length_append]; show acc.length + 1 + bs.length ≤ 1000; omega) ?_
    rw [List.append_assoc]
    exact hQ
/-- two books, words of them that some order has -/
structure Bk (d : D) (cuts : List Int) (e : D) (fills : List Int) (k : D) (ws : List Wo) : Prop where
  c : Sq d cuts
  f : Sq e fills
  w : Ws k ws
  no : NoClash ws
  l : ws.length ≤ 1000
  cl : cuts.length ≤ 400
  fl : fills.length ≤ 400
  b : InB cuts.length fills.length ws
theorem bnd_hi (m n : Nat) (ws : List Wo) : (bndL m n ws).map (fun b => D.int ((b.2 : Nat) : Int)) = dN (hiL m n ws) := by unfold bndL hiL dN; rw [List.map_map, List.map_map]; rfl
theorem bnd_lo (m n : Nat) (ws : List Wo) : (bndL m n ws).map (fun b => D.int ((b.1 : Nat) : Int)) = dN (loL n ws) := by unfold bndL loL dN; rw [List.map_map, List.map_map]; rfl
theorem bnd_len (m n : Nat) (ws : List Wo) : (bndL m n ws).length = n := by simp [bndL]
theorem hiL_len (m n : Nat) (ws : List Wo) : (hiL m n ws).length = n := by simp [hiL]
theorem loL_len (n : Nat) (ws : List Wo) : (loL n ws).length = n := by simp [loL]
def g_least_order : FA := fun ds C => ∃ d cuts e fills k ws, ds = [d, e, k] ∧ Bk d cuts e fills k ws ∧ C (.val (.str (txt (ordW 0 (hiL cuts.length fills.length ws) cuts.length))))
theorem rd_least_order : ∀ ds C, ds.length = 3 → g_least_order ds C → T_least_order g_bounds g_order_with { nx := fun _ => C (.val .non), rt := fun c _ => C c } (startA N_least_order ds) := by
  rintro ds C - ⟨d, cuts, e, fills, k, ws, rfl, B, hC⟩
  have h1 := B.cl
  have h2 := B.fl
  refine ⟨rfl, d, cuts, e, fills, k, ws, rfl, B.c, B.f, B.w, B.no, B.l, by omega, B.b, fun p => ?_⟩
  refine lcW_bnds (h := fun b => .int ((b.2 : Nat) : Int)) _ [] (fun b _ K hK => ⟨rfl, rfl, hK _ rfl⟩) (by rw [bnd_len]; show 0 + fills.length ≤ 1000; omega) ?_
  rw [List.nil_append, bnd_hi]
  rcases B.c with rfl | rfl
  · refine ⟨rfl, hiL cuts.length fills.length ws, cuts.length, ?_, hiL_rise _ _ _, by omega, by rw [hiL_len]; omega, hC⟩
    show [D.lst _, D.int (((dI cuts).length : Nat) : Int)] = _
    rw [ints_len]
  · refine ⟨rfl, hiL cuts.length fills.length ws, cuts.length, ?_, hiL_rise _ _ _, by omega, by rw [hiL_len]; omega, hC⟩
    show [D.lst _, D.int (((dI cuts).length : Nat) : Int)] = _
    rw [ints_len]
def g_greatest_order : FA := fun ds C => ∃ d cuts e fills k ws, ds = [d, e, k] ∧ Bk d cuts e fills k ws ∧ C (.val (.str (txt (ordW 0 (loL fills.length ws) cuts.length))))
theorem rd_greatest_order : ∀ ds C, ds.length = 3 → g_greatest_order ds C → T_greatest_order g_bounds g_order_with { nx := fun _ => C (.val .non), rt := fun c _ => C c } (startA N_greatest_order ds) := by
  rintro ds C - ⟨d, cuts, e, fills, k, ws, rfl, B, hC⟩
  have h1 := B.cl
  have h2 := B.fl
  refine ⟨rfl, d, cuts, e, fills, k, ws, rfl, B.c, B.f, B.w, B.no, B.l, by omega, B.b, fun p => ?_⟩
  refine lcW_bnds (h := fun b => .int ((b.1 : Nat) : Int)) _ [] (fun b _ K hK => ⟨rfl, rfl, hK _ rfl⟩) (by rw [bnd_len]; show 0 + fills.length ≤ 1000; omega) ?_
  rw [List.nil_append, bnd_lo]
  rcases B.c with rfl | rfl
  · refine ⟨rfl, loL fills.length ws, cuts.length, ?_, loL_rise B.b, by omega, by rw [loL_len]; omega, hC⟩
    show [D.lst _, D.int (((dI cuts).length : Nat) : Int)] = _
    rw [ints_len]
  · refine ⟨rfl, loL fills.length ws, cuts.length, ?_, loL_rise B.b, by omega, by rw [loL_len]; omega, hC⟩
    show [D.lst _, D.int (((dI cuts).length : Nat) : Int)] = _
    rw [ints_len]
/-- what stands behind an order -/
def stL (l cuts fills : List Int) (o : List Bool) : List Int := behindL l (almL cuts fills 0 0 o)
def loSt (l cuts fills : List Int) (ws : List Wo) : List Int := stL l cuts fills (ordW 0 (hiL cuts.length fills.length ws) cuts.length)
def hiSt (l cuts fills : List Int) (ws : List Wo) : List Int := stL l cuts fills (ordW 0 (loL fills.length ws) cuts.length)
theorem stL_len (l cuts fills : List Int) (o : List Bool) : (stL l cuts fills o).length = l.length := behindL_len _ _
def g_may_stand : FA := fun ds C => ∃ a l d cuts e fills k ws, ds = [a, d, e, k] ∧ Sq a l ∧ l ≠ [] ∧ l.length ≤ 1000 ∧ Bk d cuts e fills k ws ∧ C (.val (.tup [tD (loSt l cuts fills ws), tD (hiSt l cuts fills ws)]))
theorem rd_may_stand : ∀ ds C, ds.length = 4 → g_may_stand ds C → T_may_stand g_behind g_almanac_of g_least_order g_greatest_order { nx := fun _ => C (.val .non), rt := fun c _ => C c } (startA N_may_stand ds) := by
  rintro ds C - ⟨a, l, d, cuts, e, fills, k, ws, rfl, ha, hne, hl, B, hC⟩
  have h1 := B.cl
  have h2 := B.fl
  have c1 := ordW_cT (hiL_rise cuts.length fills.length ws)
  have c2 := ordW_cT (loL_rise B.b)
  have f1 := ordW_cF cuts.length (hiL cuts.length fills.length ws) 0
  have f2 := ordW_cF cuts.length (loL fills.length ws) 0
  rw [hiL_len] at f1
  rw [loL_len] at f2
  have l1 := cT_cF (ordW 0 (hiL cuts.length fills.length ws) cuts.length)
  have l2 := cT_cF (ordW 0 (loL fills.length ws) cuts.length)
  refine ⟨rfl, d, cuts, e, fills, k, ws, rfl, B, rfl, d, cuts, e, fills, _, rfl, B.c, B.f, by omega, by omega, by omega, fun p => ?_⟩
  refine ⟨rfl, d, cuts, e, fills, k, ws, rfl, B, rfl, d, cuts, e, fills, _, rfl, B.c, B.f, by omega, by omega, by omega, fun q => ?_⟩
  refine ⟨rfl, a, l, _, _, rfl, ha, .inl rfl, hne, hl, by rw [almL_len]; omega, ?_⟩
  refine ⟨rfl, a, l, _, _, rfl, ha, .inl rfl, hne, hl, by rw [almL_len]; omega, by show (2 : Nat) ≤ sizeLine; decide, hC⟩
def sureL (k : Nat) : List Int → List Int → List Int
  | x :: a, y :: b => if x = y then (k : Int) :: sureL (k + 1) a b else sureL (k + 1) a b
  | _, _ => []
theorem sureL_len : ∀ (a b : List Int) (k : Nat), (sureL k a b).length ≤ a.length
  | [], _, _ => by simp [sureL]
  | _ :: _, [], _ => by simp [sureL]
  | x :: a, y :: b, k => by
    have := sureL_len a b (k + 1)
    unfold sureL
    split <;> simp <;> omega
def g_sure_posts : FA := fun ds C => ∃ a l d cuts e fills k ws, ds = [a, d, e, k] ∧ Sq a l ∧ l ≠ [] ∧ l.length ≤ 1000 ∧ Bk d cuts e fills k ws ∧ ∀ p, C (.own p (dI (sureL 0 (loSt l cuts fills ws) (hiSt l cuts fills ws))))
theorem rd_sure_posts : ∀ ds C, ds.length = 4 → g_sure_posts ds C → T_sure_posts g_may_stand { nx := fun _ => C (.val .non), rt := fun c _ => C c } (startA N_sure_posts ds) := by
  rintro ds C - ⟨a, l, d, cuts, e, fills, k, ws, rfl, ha, hne, hl, B, hC⟩
  refine ⟨rfl, a, l, d, cuts, e, fills, k, ws, rfl, ha, hne, hl, B, rfl, rfl, ?_⟩
  have e1 : (loSt l cuts fills ws).length = l.length := stL_len _ _ _ _
  have e2 : (hiSt l cuts fills ws).length = l.length := stL_len _ _ _ _
  generalize loSt l cuts fills ws = x at *
  generalize hiSt l cuts fills ws = y at *
  show lcW [6, 7] (hTup 2 (hCons (hName 6) (hCons (hName 7) hNil))) (pTest (pOp fEq (pVar 7) (pIxO 5 (pVar 6)))) (pVar 6) (fun acc ρ2 => ∀ p, C (.own p acc)) (enumD 0 (dI x)) [] [some (.val a), some (.val d), some (.val e), some (.val k), some (.val (tD x)), some (.val (tD y)), none, none]
  refine lcW_inv (fun ds acc ρ => ∃ (n : Nat) (x1 y1 got : List Int), ds = enumD n (dI x1) ∧ acc = dI got ∧ ρ = [some (.val a), some (.val d), some (.val e), some (.val k), some (.val (tD x)), some (.val (tD y)), none, none] ∧ y1 = y.drop n ∧ x1.length = y1.length ∧ n + x1.length = l.length ∧ got ++ sureL n x1 y1 = sureL 0 x y ∧ got.length ≤ n) (fun v r acc ρ K hK hI => ?_) (fun acc ρ hI => ?_) _ _ _ ⟨0, x, y, [], rfl, rfl, rfl, rfl, by rw [e1, e2], by omega, rfl, Nat.le_refl _⟩
  · obtain ⟨n, x1, y1, got, h1, rfl, rfl, h2, h3, h4, h5, h6⟩ := hI
    cases x1 with
    | nil => cases h1
    | cons u x1 =>
      cases h1
      cases y1 with
      | nil => simp at h3
      | cons v y1 =>
        have h4 : n + (x1.length + 1) = l.length := h4
        have hn : n < y.length := by omega
        have hv : y.getD n 0 = v ∧ y.drop (n + 1) = y1 := by
          have : y.drop n = y[n] :: y.drop (n + 1) := List.drop_eq_getElem_cons hn
          rw [this] at h2
          have := List.cons.inj h2
          refine ⟨?_, this.2.symm⟩
          rw [List.getD_eq_getElem?_getD, List.getElem?_eq_getElem hn]; exact this.1.symm
        refine ⟨rfl, rfl, _, atI_get hn, sh_int _, sh_int _, ?_⟩
        rw [hv.1]
        have es : sureL n (u :: x1) (v :: y1) = if u = v then (n : Int) :: sureL (n + 1) x1 y1 else sureL (n + 1) x1 y1 := rfl
        refine ifB (fun q => ?_) (fun q => ?_)
        · have q : u = v := by rw [show (D.int u).eqv (.int v) = _ from eqv_int u v] at q; simpa using q
          rw [es, if_pos q] at h5
          refine ⟨small1000 (by rw [ints_len]; omega), hK _ _ ⟨n + 1, x1, y1, got ++ [(n : Int)], rfl, by unfold dI; rw [List.map_append]; rfl, rfl, hv.2.symm, by simpa using h3, by omega, by rw [List.append_assoc]; exact h5, by simp; omega⟩⟩
        · have q : u ≠ v := by rw [show (D.int u).eqv (.int v) = _ from eqv_int u v] at q; simpa using q
          rw [es, if_neg q] at h5
          exact hK _ _ ⟨n + 1, x1, y1, got, rfl, rfl, rfl, hv.2.symm, by simpa using h3, by omega, h5, by omega⟩
  · obtain ⟨n, x1, y1, got, h1, rfl, rfl, h2, h3, h4, h5, h6⟩ := hI
    cases x1 with
    | cons u x1 => cases h1
    | nil =>
      have : sureL n [] y1 = [] := by unfold sureL; rfl
      rw [this, List.append_nil] at h5
      rw [h5]
      exact hC
end Pl
namespace Pl
open PySem PySem.Spec PyProof.Rows L2
/-! ### drawn orders -/
theorem map_erase {α β : Type} (f : α → β) : ∀ (l : List α) (k : Nat), (l.map f).eraseIdx k = (l.eraseIdx k).map f
  | [], _ => rfl
  | _ :: _, 0 => rfl
  | x :: l, k + 1 => by
    show f x :: (l.map f).eraseIdx k = f x :: (l.eraseIdx k).map f
    rw [map_erase f l k]
theorem cT_erase : ∀ (l : List Bool) (k : Nat) (b : Bool), l[k]? = some b → cT (l.eraseIdx k) + cT [b] = cT l ∧ cF (l.eraseIdx k) + cF [b] = cF l ∧ (l.eraseIdx k).length + 1 = l.length
  | [], _, _, h => by simp at h
  | x :: l, 0, b, h => by
    have e : x = b := by simpa using h
    subst e
    show cT l + cT [x] = cT (x :: l) ∧ cF l + cF [x] = cF (x :: l) ∧ l.length + 1 = (x :: l).length
    cases x with
    | true => exact ⟨rfl, rfl, rfl⟩
    | false => exact ⟨rfl, rfl, rfl⟩
  | x :: l, k + 1, b, h => by
    obtain ⟨h1, h2, h3⟩ := cT_erase l k b (by simpa using h)
    show cT (x :: l.eraseIdx k) + cT [b] = cT (x :: l) ∧ cF (x :: l.eraseIdx k) + cF [b] = cF (x :: l) ∧ (x :: l.eraseIdx k).length + 1 = (x :: l).length
    cases x with
    | true =>
      refine ⟨?_, h2, by simp; omega⟩
      show cT (l.eraseIdx k) + 1 + cT [b] = cT l + 1; omega
    | false =>
      refine ⟨h1, ?_, by simp; omega⟩
      show cF (l.eraseIdx k) + 1 + cF [b] = cF l + 1; omega
theorem rep_sg (n : Nat) (b : Bool) : (List.replicate n [sgD b]).flatten = (List.replicate n b).map sgD := by
  induction n with
  | zero => rfl
  | succ n ih => rw [List.replicate_succ, List.flatten_cons, ih]; rfl
theorem cT_repF : ∀ n : Nat, cT (List.replicate n false) = 0
  | 0 => rfl
  | n + 1 => cT_repF n
theorem cF_repF : ∀ n : Nat, cF (List.replicate n false) = n
  | 0 => rfl
  | n + 1 => by show cF (List.replicate n false) + 1 = n + 1; rw [cF_repF n]
def g__law_order : FB := fun xs ds C => ∃ n c f, n ≤ 10000000000 ∧ Bx n xs ∧ ds = [.int ((c : Nat) : Int), .int ((f : Nat) : Int)] ∧ c ≤ 100 ∧ f ≤ 100 ∧ ∀ o zs, cT o = c → cF o = f → Bx (n + 500) zs → C (.val (.str (txt o))) zs
theorem rd__law_order : ∀ a xs ds C, ds.length + 1 = 3 → g__law_order xs ds C → T__law_order (g_take 100000000000000) { nx := fun ρ => ∃ ys, ρ[0]? = some (some (.own a ys)) ∧ C (.val .non) ys, rt := fun c ρ => ∃ ys, ρ[0]? = some (some (.own a ys)) ∧ C c ys } (startB N__law_order a xs ds) := by
  rintro a xs ds C - ⟨n, c, f, hn, hB, rfl, hc, hf, hC⟩
  have h1 : (1 : Nat) ≤ sizeLine := by decide
  have k1 : (1 : Nat) ≤ 1000 := by decide
  have el : (List.replicate ((c : Int)).toNat [D.str "c"]).flatten ++ (List.replicate ((f : Int)).toNat [D.str "f"]).flatten = (List.replicate c true ++ List.replicate f false).map sgD := by
    rw [show D.str "c" = sgD true by unfold sgD sgS; rw [lit_c]; rfl, show D.str "f" = sgD false by unfold sgD sgS; rw [lit_f]; rfl, rep_sg, rep_sg, List.map_append]
    rfl
  have main : ∀ (b : Addr), forW (hName 5) (pSet 4 (pVal (pOp fAdd (pVar 4) (pPop 3 (pFrz (pCallB 0 2 (g_take 100000000000000) (pCons (pLenO 3) pNil))))))) { nx := fun ρ => pRet (pMove 4) { nx := fun ρ => ∃ ys, ρ[0]? = some (some (.own a ys)) ∧ C (.val .non) ys, rt := fun c ρ => ∃ ys, ρ[0]? = some (some (.own a ys)) ∧ C c ys } ρ, rt := fun c ρ => ∃ ys, ρ[0]? = some (some (.own a ys)) ∧ C c ys } (rangeD 0 (c + f)) [some (.own a xs), some (.val (.int (c : Int))), some (.val (.int (f : Int))), some (.own b ((List.replicate c true ++ List.replicate f false).map sgD)), some (.val (.str "")), none] := by
    intro b
    refine for_inv (fun ds ρ => ∃ (ls done : List Bool) (zs : List D) (w : Option Cell), ds.length = ls.length ∧ cT done + cT ls = c ∧ cF done + cF ls = f ∧ Bx (n + 2 * done.length) zs ∧ done.length + ls.length = c + f ∧ ρ = [some (.own a zs), some (.val (.int (c : Int))), some (.val (.int (f : Int))), some (.own b (ls.map sgD)), some (.val (.str (txt done))), w]) (fun x r ρ K hK hI => ?_) (fun ρ hI => ?_) _ _ ⟨List.replicate c true ++ List.replicate f false, [], xs, none, by simp [rangeD], ?_, ?_, hB, by simp, by rw [show txt [] = ("" : Str) from lit_e.symm]⟩
    · obtain ⟨ls, done, zs, w, e1, e2, e3, hz, e4, rfl⟩ := hI
      have e1 : r.length + 1 = ls.length := e1
      refine ⟨zs, rfl, rfl, _, ((ls.map sgD).length : Nat), by omega, hz, rfl, by rw [List.length_map]; omega, by rw [List.length_map]; omega, fun v zs1 v1 v2 hz1 => ?_⟩
      rw [List.length_map] at v2
      obtain ⟨k, rfl⟩ := Int.eq_ofNat_of_zero_le v1
      have hk : k < ls.length := by omega
      have hg : ls[k]? = some ls[k] := List.getElem?_eq_getElem hk
      obtain ⟨q1, q2, q3⟩ := cT_erase ls k _ hg
      refine ⟨ls.map sgD, k, sgD ls[k], rfl, rfl, by omega, by rw [List.getElem?_map, hg]; rfl, ?_, ?_⟩
      · refine sl1000 ?_
        rw [txt_len]
        show done.length + 1 ≤ 1000; omega
      · refine hK _ ⟨ls.eraseIdx k, done ++ [ls[k]], zs1, some (.val x), by omega, ?_, ?_, hz1.mono (by simp; omega), by simp; omega, ?_⟩
        · rw [cT_append]; omega
        · rw [cF_append]; omega
        · rw [← map_erase, ← txt_append]; rfl
    · obtain ⟨ls, done, zs, w, e1, e2, e3, hz, e4, rfl⟩ := hI
      have e1 : 0 = ls.length := e1
      have : ls = [] := List.length_eq_zero_iff.mp e1.symm
      subst this
      exact ⟨zs, rfl, hC done zs (by simpa [cT] using e2) (by simpa [cF] using e3) (hz.mono (by simp at e4; omega))⟩
    · rw [cT_append, cT_rep, cT_repF]; simp [cT]
    · rw [cF_append, cF_rep, cF_repF]; simp [cF]
  refine ⟨h1, by show (0 : Int) ≤ (c : Int); omega, by show (c : Int) ≤ 1000; omega, k1, h1, by show (0 : Int) ≤ (f : Int); omega, by show (f : Int) ≤ 1000; omega, k1, ?_, fun b => ?_⟩
  · have := congrArg List.length el
    rw [List.length_append] at this
    refine sl1000 ?_
    have e : ((List.replicate c true ++ List.replicate f false).map sgD).length = c + f := by simp
    rw [e] at this
    omega
  · refine ⟨by show (-(2 ^ 62) : Int) ≤ (c : Int) + (f : Int); omega, by show (c : Int) + (f : Int) < 2 ^ 62; omega, ?_⟩
    have hcf : ((c : Int) + (f : Int)).toNat = c + f := by omega
    have := main b
    rw [← el, ← hcf] at this
    exact this
end Pl
namespace Pl
open PySem PySem.Spec PyProof.Rows L2
/-! ### whether an order has a word, by the places of its letters -/
def posL (c : Bool) (k : Nat) : List Bool → List Nat
  | [] => []
  | b :: o => if (b == c) = true then k :: posL c (k + 1) o else posL c (k + 1) o
theorem posL_len (c : Bool) : ∀ (o : List Bool) (k : Nat), (posL c k o).length = if c = true then cT o else cF o
  | [], _ => by cases c <;> rfl
  | b :: o, k => by
    have := posL_len c o (k + 1)
    cases b <;> cases c <;> simp [posL, cT, cF] at this ⊢ <;> omega
theorem posL_ge (c : Bool) : ∀ (o : List Bool) (k x : Nat), x ∈ posL c k o → k ≤ x
  | [], _, _, h => by simp [posL] at h
  | b :: o, k, x, h => by
    unfold posL at h
    split at h
    · rcases List.mem_cons.mp h with e | h
      · omega
      · have := posL_ge c o (k + 1) x h; omega
    · have := posL_ge c o (k + 1) x h; omega
theorem pos_ahead : ∀ (o : List Bool) (k j c f x y : Nat), (posL true k o)[c]? = some x → (posL false k o)[f]? = some y → ∃ z, (aheadL j o)[f]? = some z ∧ (x < y ↔ c + j < z)
  | [], _, _, c, _, _, _, h, _ => by simp [posL] at h
  | true :: o, k, j, 0, f, x, y, h1, h2 => by
    have h1 : k = x := by simpa [posL] using h1
    have h2 : (posL false (k + 1) o)[f]? = some y := h2
    have hy := posL_ge false o (k + 1) y (List.mem_of_getElem? h2)
    have hf : f < (aheadL (j + 1) o).length := by
      have := posL_len false o (k + 1)
      rw [aheadL_len]
      have hl : f < (posL false (k + 1) o).length := by
        rcases Nat.lt_or_ge f (posL false (k + 1) o).length with q | q
        · exact q
        · rw [List.getElem?_eq_none q] at h2; cases h2
      rw [this] at hl
      simpa using hl
    refine ⟨(aheadL (j + 1) o)[f], List.getElem?_eq_getElem hf, ?_⟩
    have := (aheadL_le o (j + 1) _ (List.getElem_mem hf)).1
    omega
  | true :: o, k, j, c + 1, f, x, y, h1, h2 => by
    have h1 : (posL true (k + 1) o)[c]? = some x := by simpa [posL] using h1
    have h2 : (posL false (k + 1) o)[f]? = some y := h2
    obtain ⟨z, hz, e⟩ := pos_ahead o (k + 1) (j + 1) c f x y h1 h2
    exact ⟨z, hz, by rw [e]; omega⟩
  | false :: o, k, j, c, 0, x, y, h1, h2 => by
    have h1 : (posL true (k + 1) o)[c]? = some x := h1
    have h2 : k = y := by simpa [posL] using h2
    have hx := posL_ge true o (k + 1) x (List.mem_of_getElem? h1)
    exact ⟨j, rfl, by omega⟩
  | false :: o, k, j, c, f + 1, x, y, h1, h2 => by
    have h1 : (posL true (k + 1) o)[c]? = some x := h1
    have h2 : (posL false (k + 1) o)[f]? = some y := by simpa [posL] using h2
    obtain ⟨z, hz, e⟩ := pos_ahead o (k + 1) j c f x y h1 h2
    exact ⟨z, hz, e⟩
theorem lcW_pos {s : Str} {c : Bool} (hs : ∀ b, (sgD b).eqv (.str s) = (b == c)) (hsh : (D.str s).sh) {Q : List D → Ro → Prop} {d0 d1 d2 d3 d4 w7 w8 : Option Cell} (o : List Bool) (hl : o.length ≤ 900) (hQ : Q (dN (posL c 0 o)) [d0, d1, d2, d3, d4, none, none, w7, w8]) :
    lcW [5, 6] (hTup 2 (hCons (hName 5) (hCons (hName 6) hNil))) (pTest (pOp fEq (pVar 6) (pC (.str s)))) (pVar 5) Q (enumD 0 (signsD (txt o))) [] [d0, d1, d2, d3, d4, none, none, w7, w8] := by
  rw [signs_txt]
  refine lcW_inv (fun ds acc ρ => ∃ (n : Nat) (rest : List Bool) (got : List Nat), ds = enumD n (rest.map sgD) ∧ acc = dN got ∧ ρ = [d0, d1, d2, d3, d4, none, none, w7, w8] ∧ got ++ posL c n rest = posL c 0 o ∧ got.length ≤ n ∧ n + rest.length = o.length) (fun v r acc ρ K hK hI => ?_) (fun acc ρ hI => ?_) _ _ _ ⟨0, o, [], rfl, rfl, rfl, rfl, Nat.le_refl _, by simp⟩
  · obtain ⟨n, rest, got, h1, rfl, rfl, h2, h3, h4⟩ := hI
    cases rest with
    | nil => cases h1
    | cons b rest =>
      cases h1
      have h4 : n + (rest.length + 1) = o.length := h4
      have es : posL c n (b :: rest) = if (b == c) = true then n :: posL c (n + 1) rest else posL c (n + 1) rest := rfl
      refine ⟨rfl, rfl, sh_sg b, hsh, ifB (fun q => ?_) (fun q => ?_)⟩
      · rw [hs] at q
        rw [es, if_pos q] at h2
        exact ⟨small1000 (by simp [dN]; omega), hK _ _ ⟨n + 1, rest, got ++ [n], rfl, by unfold dN; rw [List.map_append]; rfl, rfl, by rw [List.append_assoc]; exact h2, by simp; omega, by omega⟩⟩
      · rw [hs] at q
        rw [es, if_neg (by rw [q]; simp)] at h2
        exact hK _ _ ⟨n + 1, rest, got, rfl, rfl, rfl, h2, by omega, by omega⟩
  · obtain ⟨n, rest, got, h1, rfl, rfl, h2, h3, h4⟩ := hI
    cases rest with
    | cons b rest => cases h1
    | nil =>
      rw [show posL c n [] = [] from rfl, List.append_nil] at h2
      rw [h2]
      exact hQ
theorem atI_dN {l : List Nat} {j x : Nat} (h : l[j]? = some x) : atI (dN l) ((j : Nat) : Int) = some (.int (x : Int)) := by
  refine atI_nat ?_
  unfold dN; rw [List.getElem?_map, h]; rfl
def g__law_has : FA := fun ds C => ∃ o w, ds = [.str (txt o), wordD w] ∧ w.2.1 < cT o ∧ w.2.2 < cF o ∧ o.length ≤ 900 ∧ C (.val (.bl (hasW (aheadL 0 o) w)))
theorem rd__law_has : ∀ ds C, ds.length = 2 → g__law_has ds C → T__law_has { nx := fun _ => C (.val .non), rt := fun c _ => C c } (startA N__law_has ds) := by
  rintro ds C - ⟨o, w, rfl, hc, hf, hl, hC⟩
  have l1 := posL_len true o 0
  have l2 := posL_len false o 0
  have g1 : (posL true 0 o)[w.2.1]? = some ((posL true 0 o)[w.2.1]'(by rw [l1]; exact hc)) := List.getElem?_eq_getElem _
  have g2 : (posL false 0 o)[w.2.2]? = some ((posL false 0 o)[w.2.2]'(by rw [l2]; exact hf)) := List.getElem?_eq_getElem _
  obtain ⟨z, hz, e⟩ := pos_ahead o 0 0 _ _ _ _ g1 g2
  refine ⟨rfl, rfl, ?_⟩
  refine lcW_pos (c := true) (fun b => by rw [eqv_sgc]; cases b <;> rfl) sh_c o hl ?_
  refine lcW_pos (c := false) (fun b => by rw [eqv_sgf]; cases b <;> rfl) sh_f o hl ?_
  refine ⟨_, atI_dN g1, _, atI_dN g2, sh_word' w.1, sh_cut, sh_bl _, sh_bl _, ?_⟩
  have eh : hasW (aheadL 0 o) w = ((D.bl (decide (((posL true 0 o)[w.2.1]'(by rw [l1]; exact hc) : Nat) < (((posL false 0 o)[w.2.2]'(by rw [l2]; exact hf) : Nat) : Int)))).eqv (.bl ((D.str (wordS w.1)).eqv (.str (wordS true))))) := by
    rw [eqv_bl, eqv_words']
    unfold hasW
    rw [List.getD_eq_getElem?_getD, hz]
    have : decide ((((posL true 0 o)[w.2.1]'(by rw [l1]; exact hc) : Nat) : Int) < (((posL false 0 o)[w.2.2]'(by rw [l2]; exact hf) : Nat) : Int)) = decide (w.2.1 < z) := decide_eq_decide.mpr (by omega)
    rw [this]
    show (w.1 == decide (w.2.1 < z)) = _
    cases w.1 <;> cases decide (w.2.1 < z) <;> rfl
  rw [eh] at hC
  exact hC
/-! ### drawn words -/
theorem cnt_T : ∀ o : List Bool, PyProof.Rows.cnt 99 (o.map sg) = ((cT o : Nat) : Int)
  | [] => rfl
  | true :: o => by
    show PyProof.Rows.cnt 99 (99 :: o.map sg) = ((cT o + 1 : Nat) : Int)
    rw [PyProof.Rows.cnt_cons, cnt_T o, if_pos rfl]; omega
  | false :: o => by
    show PyProof.Rows.cnt 99 (102 :: o.map sg) = ((cT o : Nat) : Int)
    rw [PyProof.Rows.cnt_cons, cnt_T o, if_neg (by decide)]; omega
theorem cnt_F : ∀ o : List Bool, PyProof.Rows.cnt 102 (o.map sg) = ((cF o : Nat) : Int)
  | [] => rfl
  | true :: o => by
    show PyProof.Rows.cnt 102 (99 :: o.map sg) = ((cF o : Nat) : Int)
    rw [PyProof.Rows.cnt_cons, cnt_F o, if_neg (by decide)]; omega
  | false :: o => by
    show PyProof.Rows.cnt 102 (102 :: o.map sg) = ((cF o + 1 : Nat) : Int)
    rw [PyProof.Rows.cnt_cons, cnt_F o, if_pos rfl]; omega
theorem count_c (o : List Bool) : Txt.count (txt o) "c" = ((cT o : Nat) : Int) := by rw [lit_c, count_is]; exact cnt_T o
theorem count_f (o : List Bool) : Txt.count (txt o) "f" = ((cF o : Nat) : Int) := by rw [show ("f" : Str) = ⟨#[102]⟩ by decide +kernel, count_is]; exact cnt_F o
end Pl
namespace Pl
open PySem PySem.Spec PyProof.Rows L2
def g__law_words : FB := fun xs ds C => ∃ n o size, n ≤ 1000000000 ∧ Bx n xs ∧ ds = [.str (txt o), .int ((size : Nat) : Int)] ∧ size ≤ 100 ∧ o.length ≤ 900 ∧ ∀ p ws zs, ws.length ≤ size → InB (cT o) (cF o) ws → Bx (n + 2000) zs → C (.own p (wordsD ws)) zs
theorem rd__law_words : ∀ a xs ds C, ds.length + 1 = 3 → g__law_words xs ds C → T__law_words (g_take 100000000000000) g__law_has { nx := fun ρ => ∃ ys, ρ[0]? = some (some (.own a ys)) ∧ C (.val .non) ys, rt := fun c ρ => ∃ ys, ρ[0]? = some (some (.own a ys)) ∧ C c ys } (startB N__law_words a xs ds) := by
  rintro a xs ds C - ⟨n, o, size, hn, hB, rfl, hs, hl, hC⟩
  have h3 : (3 : Nat) ≤ sizeLine := by decide
  have hTF := cT_cF o
  have main : ∀ (b : Addr) (m : Nat) (zs : List D) (t : Bool), m ≤ size → (0 < m → 0 < cT o ∧ 0 < cF o) → Bx (n + 4) zs → forW (hName 7) (pSeq (pSet 8 (pVal (pTup (pCons (pC (.str "cut")) (pCons (pFrz (pCallB 0 2 (g_take 100000000000000) (pCons (pVar 3) pNil))) (pCons (pFrz (pCallB 0 2 (g_take 100000000000000) (pCons (pVar 4) pNil))) pNil))))))
    (pSeq (pIfS (pOr (pNot (pTest (pFrz (pCallA 2 g__law_has (pCons (pVar 1) (pCons (pVar 8) pNil)))))) (pAnd (pTest (pVar 6)) (pTest (pOp fEq (pFrz (pCallB 0 2 (g_take 100000000000000) (pCons (pC (.int 4)) pNil))) (pC (.int 0))))))
    (pSet 8 (pVal (pTup (pCons (pC (.str "fill")) (pCons (pIxO 8 (pC (.int 1))) (pCons (pIxO 8 (pC (.int 2))) pNil))))))
    pNext)
    (pAppend 5 (pVar 8)))) { nx := fun ρ => pRet (pMove 5) { nx := fun ρ => ∃ ys, ρ[0]? = some (some (.own a ys)) ∧ C (.val .non) ys, rt := fun c ρ => ∃ ys, ρ[0]? = some (some (.own a ys)) ∧ C c ys } ρ, rt := fun c ρ => ∃ ys, ρ[0]? = some (some (.own a ys)) ∧ C c ys } (rangeD 0 m) [some (.own a zs), some (.val (.str (txt o))), some (.val (.int (size : Int))), some (.val (.int ((cT o : Nat) : Int))), some (.val (.int ((cF o : Nat) : Int))), some (.own b []), some (.val (.bl t)), none, none] := by
    intro b m zs t hm hpos hz
    refine for_inv (fun ds ρ => ∃ (ws : List Wo) (zs : List D) (w7 w8 : Option Cell), ds.length + ws.length = m ∧ InB (cT o) (cF o) ws ∧ Bx (n + 4 + 6 * ws.length) zs ∧ ρ = [some (.own a zs), some (.val (.str (txt o))), some (.val (.int (size : Int))), some (.val (.int ((cT o : Nat) : Int))), some (.val (.int ((cF o : Nat) : Int))), some (.own b (wordsD ws)), some (.val (.bl t)), w7, w8]) (fun x r ρ K hK hI => ?_) (fun ρ hI => ?_) _ _ ⟨[], zs, none, none, by simp [rangeD], fun w h => by simp at h, hz, rfl⟩
    · obtain ⟨ws, zs, w7, w8, e1, hi, hz, rfl⟩ := hI
      have e1 : r.length + 1 + ws.length = m := e1
      obtain ⟨p1, p2⟩ := hpos (by omega)
      refine ⟨zs, rfl, rfl, _, ((cT o : Nat) : Int), by omega, hz, rfl, by omega, by omega, fun u zs1 u1 u2 hz1 => ?_⟩
      refine ⟨zs1, rfl, rfl, _, ((cF o : Nat) : Int), by omega, hz1, rfl, by omega, by omega, fun v zs2 v1 v2 hz2 => ⟨h3, ?_⟩⟩
      obtain ⟨c, rfl⟩ := Int.eq_ofNat_of_zero_le u1
      obtain ⟨f, rfl⟩ := Int.eq_ofNat_of_zero_le v1
      have hzl : (wordsD ws).length < sizeLine := small1000 (by rw [wordsD_len]; omega)
      have fin : ∀ (k : Bool) (zs3 : List D), Bx (n + 4 + 6 * ws.length + 6) zs3 → K [some (.own a zs3), some (.val (.str (txt o))), some (.val (.int (size : Int))), some (.val (.int ((cT o : Nat) : Int))), some (.val (.int ((cF o : Nat) : Int))), some (.own b (wordsD ws ++ [wordD (k, c, f)])), some (.val (.bl t)), some (.val x), some (.val (wordD (k, c, f)))] := by
        intro k zs3 hz3
        refine hK _ ⟨ws ++ [(k, c, f)], zs3, some (.val x), some (.val (wordD (k, c, f))), by simp; omega, fun w hw => ?_, hz3.mono (by simp; omega), by unfold wordsD; rw [List.map_append]; rfl⟩
        rcases List.mem_append.mp hw with hw | hw
        · exact hi w hw
        · rw [List.mem_singleton.mp hw]; exact ⟨by show c < cT o; omega, by show f < cF o; omega⟩
      refine ⟨rfl, o, (true, c, f), rfl, by show c < cT o; omega, by show f < cF o; omega, hl, ?_⟩
      have change : ∀ zs3, Bx (n + 4 + 6 * ws.length + 6) zs3 → pSet 8 (pVal (pTup (pCons (pC (.str "fill")) (pCons (pIxO 8 (pC (.int 1))) (pCons (pIxO 8 (pC (.int 2))) pNil))))) { nx := fun ρ => pAppend 5 (pVar 8) { nx := K, ct := K, rt := fun c ρ => ∃ ys, ρ[0]? = some (some (.own a ys)) ∧ C c ys, bk := fun ρ => pRet (pMove 5) { nx := fun ρ => ∃ ys, ρ[0]? = some (some (.own a ys)) ∧ C (.val .non) ys, rt := fun c ρ => ∃ ys, ρ[0]? = some (some (.own a ys)) ∧ C c ys } ρ } ρ, rt := fun c ρ => ∃ ys, ρ[0]? = some (some (.own a ys)) ∧ C c ys, bk := fun ρ => pRet (pMove 5) { nx := fun ρ => ∃ ys, ρ[0]? = some (some (.own a ys)) ∧ C (.val .non) ys, rt := fun c ρ => ∃ ys, ρ[0]? = some (some (.own a ys)) ∧ C c ys } ρ, ct := K } [some (.own a zs3), some (.val (.str (txt o))), some (.val (.int (size : Int))), some (.val (.int ((cT o : Nat) : Int))), some (.val (.int ((cF o : Nat) : Int))), some (.own b (wordsD ws)), some (.val (.bl t)), some (.val x), some (.val (wordD (true, c, f)))] := by
        intro zs3 hz3
        exact ⟨_, rfl, _, rfl, h3, _, rfl, hzl, fin false zs3 hz3⟩
      have keep : ∀ zs3, Bx (n + 4 + 6 * ws.length + 6) zs3 → pAppend 5 (pVar 8) { nx := K, ct := K, rt := fun c ρ => ∃ ys, ρ[0]? = some (some (.own a ys)) ∧ C c ys, bk := fun ρ => pRet (pMove 5) { nx := fun ρ => ∃ ys, ρ[0]? = some (some (.own a ys)) ∧ C (.val .non) ys, rt := fun c ρ => ∃ ys, ρ[0]? = some (some (.own a ys)) ∧ C c ys } ρ } [some (.own a zs3), some (.val (.str (txt o))), some (.val (.int (size : Int))), some (.val (.int ((cT o : Nat) : Int))), some (.val (.int ((cF o : Nat) : Int))), some (.own b (wordsD ws)), some (.val (.bl t)), some (.val x), some (.val (wordD (true, c, f)))] := by
        intro zs3 hz3
        exact ⟨_, rfl, hzl, fin true zs3 hz3⟩
      refine ifB (fun q => ?_) (fun q => ?_)
      · exact change zs2 (hz2.mono (by omega))
      · cases t with
        | false => exact keep zs2 (hz2.mono (by omega))
        | true =>
          refine ⟨zs2, rfl, rfl, _, 4, by omega, hz2, rfl, by decide, by decide, fun y zs3 _ _ hz3 => ⟨sh_int _, sh_int _, ifB (fun q => ?_) (fun q => ?_)⟩⟩
          · exact change zs3 (hz3.mono (by omega))
          · exact keep zs3 (hz3.mono (by omega))
    · obtain ⟨ws, zs, w7, w8, e1, hi, hz, rfl⟩ := hI
      have e1 : 0 + ws.length = m := e1
      exact ⟨zs, rfl, hC b ws zs (by omega) hi (hz.mono (by omega))⟩
  show pSeq _ _ _ [some (.own a xs), some (.val (.str (txt o))), some (.val (.int (size : Int))), none, none, none, none, none, none]
  have start : ∀ u v : Int, u = ((cT o : Nat) : Int) → v = ((cF o : Nat) : Int) → pSeq (pParC 5 6 (pConsC (pLstO pNil) (pConsC (pVal (pOp fEq (pFrz (pCallB 0 2 (g_take 100000000000000) (pCons (pC (.int 3)) pNil))) (pC (.int 0)))) pNilC))) (pSeq (pFor (jRng1 (pCons (pOp fMulI (pFrz (pCallB 0 2 (g_take 100000000000000) (pCons (pOp fAdd (pVar 2) (pC (.int 1))) pNil))) (pCB fInt1 (pCons (pAndV (pOp fGt (pVar 3) (pC (.int 0))) (pOp fGt (pVar 4) (pC (.int 0)))) pNil))) pNil)) (hName 7)
    (pSeq (pSet 8 (pVal (pTup (pCons (pC (.str "cut")) (pCons (pFrz (pCallB 0 2 (g_take 100000000000000) (pCons (pVar 3) pNil))) (pCons (pFrz (pCallB 0 2 (g_take 100000000000000) (pCons (pVar 4) pNil))) pNil))))))
    (pSeq (pIfS (pOr (pNot (pTest (pFrz (pCallA 2 g__law_has (pCons (pVar 1) (pCons (pVar 8) pNil)))))) (pAnd (pTest (pVar 6)) (pTest (pOp fEq (pFrz (pCallB 0 2 (g_take 100000000000000) (pCons (pC (.int 4)) pNil))) (pC (.int 0))))))
    (pSet 8 (pVal (pTup (pCons (pC (.str "fill")) (pCons (pIxO 8 (pC (.int 1))) (pCons (pIxO 8 (pC (.int 2))) pNil))))))
    pNext)
    (pAppend 5 (pVar 8))))) (pRet (pMove 5))) { nx := fun ρ => ∃ ys, ρ[0]? = some (some (.own a ys)) ∧ C (.val .non) ys, rt := fun c ρ => ∃ ys, ρ[0]? = some (some (.own a ys)) ∧ C c ys } [some (.own a xs), some (.val (.str (txt o))), some (.val (.int (size : Int))), some (.val (.int u)), some (.val (.int v)), none, none, none, none] := by
    intro u v hu hv
    subst hu hv
    refine ⟨by show (0 : Nat) ≤ sizeLine; decide, fun b => ?_⟩
    refine ⟨xs, rfl, rfl, n, 3, by omega, hB, rfl, by decide, by decide, fun q zs1 _ _ hz1 => ⟨sh_int _, sh_int _, ?_⟩⟩
    refine ⟨zs1, rfl, rfl, _, ((size : Nat) : Int) + 1, by omega, hz1, rfl, by omega, by omega, fun k zs2 k1 k2 hz2 => ?_⟩
    have hm0 : ∀ e : Int, (e = 0 ∨ e = 1) → CMul k e := fun e he => .inl ⟨by show (-(2 ^ 64) : Int) < k; omega, by show k < (2 ^ 64 : Int); omega⟩
    refine ifB (fun h => ?_) (fun h => ?_)
    · have p1 := dT h
      cases e : decide ((0 : Int) < ((cF o : Nat) : Int)) with
      | true =>
        have p2 := dT e
        have hv : (if decide ((0 : Int) < ((cF o : Nat) : Int)) = true then (1 : Int) else 0) = 1 := by rw [e]; rfl
        refine ⟨hm0 _ (.inr hv), ?_⟩
        show _ ∧ _ ∧ _
        rw [hv, Int.mul_one]
        refine ⟨by omega, by omega, main b k.toNat zs2 _ (by omega) (fun _ => ⟨by omega, by omega⟩) hz2⟩
      | false =>
        have hv : (if decide ((0 : Int) < ((cF o : Nat) : Int)) = true then (1 : Int) else 0) = 0 := by rw [e]; rfl
        refine ⟨hm0 _ (.inl hv), ?_⟩
        show _ ∧ _ ∧ _
        rw [hv, Int.mul_zero]
        exact ⟨by decide, by decide, main b 0 zs2 _ (by omega) (fun z => by omega) hz2⟩
    · refine ⟨hm0 _ (.inl rfl), ?_⟩
      show _ ∧ _ ∧ _
      rw [show (if false = true then (1 : Int) else 0) = 0 from rfl, Int.mul_zero]
      exact ⟨by decide, by decide, main b 0 zs2 _ (by omega) (fun z => by omega) hz2⟩
  exact start _ _ (count_c o) (count_f o)
end Pl
namespace Pl
open PySem PySem.Spec PyProof.Rows L2
def g__law_almanac : FA := g_almanac_of
theorem pop0 {l : List Int} {k : Nat} (h : k < l.length) : (dI (l.drop k))[0]? = some (.int (l.getD k 0)) ∧ (dI (l.drop k)).eraseIdx 0 = dI (l.drop (k + 1)) := by
  have e : l.drop k = l.getD k 0 :: l.drop (k + 1) := by
    rw [List.drop_eq_getElem_cons h, List.getD_eq_getElem?_getD, List.getElem?_eq_getElem h]; rfl
  rw [e]
  exact ⟨rfl, rfl⟩
theorem rd__law_almanac : ∀ ds C, ds.length = 3 → g__law_almanac ds C → T__law_almanac { nx := fun _ => C (.val .non), rt := fun c _ => C c } (startA N__law_almanac ds) := by
  rintro ds C - ⟨d, cuts, e, fills, o, rfl, hd, he, hc, hf, hl, hC⟩
  have h2 : (2 : Nat) ≤ sizeLine := by decide
  have main : ∀ p q b : Addr, forW (hName 6) (pAppend 5 (pIf (pTest (pOp fEq (pVar 6) (pC (.str "c")))) (pTup (pCons (pC (.str "cut")) (pCons (pPop 3 (pC (.int 0))) pNil))) (pTup (pCons (pC (.str "fill")) (pCons (pPop 4 (pC (.int 0))) pNil))))) { nx := fun ρ => pRet (pMove 5) { nx := fun _ => C (.val .non), rt := fun c _ => C c } ρ, rt := fun c _ => C c } (signsD (txt o)) [some (.val d), some (.val e), some (.val (.str (txt o))), some (.own p (dI cuts)), some (.own q (dI fills)), some (.own b []), none] := by
    intro p q b
    rw [signs_txt]
    refine for_inv (fun ds ρ => ∃ (done rest : List Bool) (w : Option Cell), ds = rest.map sgD ∧ o = done ++ rest ∧ ρ = [some (.val d), some (.val e), some (.val (.str (txt o))), some (.own p (dI (cuts.drop (cT done)))), some (.own q (dI (fills.drop (cF done)))), some (.own b (windsD (almL cuts fills 0 0 done))), w]) (fun x r ρ K hK hI => ?_) (fun ρ hI => ?_) _ _ ⟨[], o, none, rfl, rfl, rfl⟩
    · obtain ⟨done, rest, w, e1, e2, rfl⟩ := hI
      cases rest with
      | nil => cases e1
      | cons s rest =>
        cases e1
        have hT : cT done + cT (s :: rest) = cT o := by rw [e2, cT_append]
        have hF : cF done + cF (s :: rest) = cF o := by rw [e2, cF_append]
        have hlen : done.length + (rest.length + 1) = o.length := by rw [e2]; simp
        have hz : (windsD (almL cuts fills 0 0 done)).length < sizeLine := small1000 (by rw [windsD_len, almL_len]; omega)
        refine ⟨sh_sg s, sh_c, ?_⟩
        cases s with
        | true =>
          have hT : cT done + (cT rest + 1) = cT o := hT
          obtain ⟨g1, g2⟩ := pop0 (l := cuts) (k := cT done) (by omega)
          refine ifT (eqv_sgc true) ⟨_, 0, _, rfl, rfl, by omega, g1, h2, _, rfl, hz, ?_⟩
          refine hK _ ⟨done ++ [true], rest, some (.val (sgD true)), rfl, by rw [e2]; simp, ?_⟩
          rw [almL_snocT, ← windsD_append, cT_append, cF_append, Nat.zero_add, g2]
          rfl
        | false =>
          have hF : cF done + (cF rest + 1) = cF o := hF
          obtain ⟨g1, g2⟩ := pop0 (l := fills) (k := cF done) (by omega)
          refine ifF (eqv_sgc false) ⟨_, 0, _, rfl, rfl, by omega, g1, h2, _, rfl, hz, ?_⟩
          refine hK _ ⟨done ++ [false], rest, some (.val (sgD false)), rfl, by rw [e2]; simp, ?_⟩
          rw [almL_snocF, ← windsD_append, cT_append, cF_append, Nat.zero_add, g2]
          rfl
    · obtain ⟨done, rest, w, e1, e2, rfl⟩ := hI
      cases rest with
      | cons s rest => cases e1
      | nil =>
        rw [List.append_nil] at e2
        subst e2
        exact hC b
  have h0 : (0 : Nat) ≤ sizeLine := Nat.zero_le _
  rcases hd with rfl | rfl <;> rcases he with rfl | rfl <;> exact fun p q => ⟨h0, fun b => main p q b⟩
/-! ### drawn books -/
def Pos0 (l : List Int) : Prop := ∀ x ∈ l, 0 ≤ x
theorem Pos0.snoc {l : List Int} {x : Int} (h : Pos0 l) (hx : 0 ≤ x) : Pos0 (l ++ [x]) := fun y hy => by
  rcases List.mem_append.mp hy with hy | hy
  · exact h y hy
  · rw [List.mem_singleton.mp hy]; exact hx
theorem Pos0.take {l : List Int} (h : Pos0 l) (n : Nat) : Pos0 (l.take n) := fun y hy => h y (List.mem_of_mem_take hy)
theorem dI_snocB (l : List Int) (x : Int) : dI l ++ [.int x] = dI (l ++ [x]) := by unfold dI; rw [List.map_append]; rfl
theorem dI_take (l : List Int) (n : Nat) : (dI l).take n = dI (l.take n) := List.map_take.symm
def g__law_books : FB := fun xs ds C => ∃ n size, n ≤ 1000000000 ∧ Bx n xs ∧ ds = [.int ((size : Nat) : Int)] ∧ size ≤ 60 ∧ ∀ cuts fills zs, cuts.length ≤ size → fills.length ≤ size → Pos0 cuts → Pos0 fills → Bx (n + 5000) zs → C (.val (.tup [.lst (dI cuts), .lst (dI fills)])) zs
theorem books_one {a p q : Addr} {n size : Nat} (hn : n ≤ 1000001000) (hs : size ≤ 60) {way : Int} {w5 w6 : Option Cell} {zs : List D} (hB : Bx n zs) (first : Bool) {cs fs : List Int} (hf : (if first = true then cs else fs) = []) {P : PEnds}
    (hP : ∀ (l : List Int) (zs : List D) (w6 : Option Cell), l.length ≤ size → Pos0 l → Bx (n + 400) zs → P.nx [some (.own a zs), some (.val (.int (size : Int))), some (.own p (dI (if first = true then l else cs))), some (.own q (dI (if first = true then fs else l))), some (.val (.int way)), w5, w6, some (.val (.adr (if first = true then p else q)))]) :
    pFor (jRng1 (pCons (pFrz (pCallB 0 2 (g_take 100000000000000) (pCons (pOp fAdd (pVar 1) (pC (.int 1))) pNil))) pNil)) (hName 6) (pAppendA 7 [2, 3] (pIf (pTest (pOp fLt (pVar 4) (pC (.int 3)))) (pFrz (pCallB 0 1 g__law_slope pNil)) (pFrz (pCallB 0 2 (g_take 100000000000000) (pCons (pC (.int 3)) pNil))))) P [some (.own a zs), some (.val (.int (size : Int))), some (.own p (dI cs)), some (.own q (dI fs)), some (.val (.int way)), w5, w6, some (.val (.adr (if first = true then p else q)))] := by
  refine ⟨zs, rfl, rfl, n, ((size : Nat) : Int) + 1, by omega, hB, rfl, by omega, by omega, fun m zs1 m1 m2 hz1 => ⟨by omega, by omega, ?_⟩⟩
  refine for_inv (fun ds ρ => ∃ (l : List Int) (zs : List D) (w6 : Option Cell), (ds.length : Int) + l.length = m ∧ Pos0 l ∧ Bx (n + 2 + 4 * l.length) zs ∧ ρ = [some (.own a zs), some (.val (.int (size : Int))), some (.own p (dI (if first = true then l else cs))), some (.own q (dI (if first = true then fs else l))), some (.val (.int way)), w5, w6, some (.val (.adr (if first = true then p else q)))]) (fun x r ρ K hK hI => ?_) (fun ρ hI => ?_) _ _ ⟨[], zs1, w6, by simp [rangeD]; omega, fun x h => by simp at h, hz1, ?_⟩
  · obtain ⟨l, zs, w6, e1, hp, hz, rfl⟩ := hI
    have e1 : ((r.length + 1 : Nat) : Int) + l.length = m := e1
    have hzl : (dI l).length < sizeLine := small1000 (by rw [ints_len]; omega)
    have fin : ∀ (y : Int) (zs2 : List D), 0 ≤ y → Bx (n + 2 + 4 * l.length + 4) zs2 → ∃ (j : Nat) (xs1 : List D), j ∈ [2, 3] ∧ ([some (.own a zs2), some (.val (.int (size : Int))), some (.own p (dI (if first = true then l else cs))), some (.own q (dI (if first = true then fs else l))), some (.val (.int way)), w5, some (.val x), some (.val (.adr (if first = true then p else q)))] : Ro)[j]? = some (some (.own (if first = true then p else q) xs1)) ∧ xs1.length < sizeLine ∧ K (([some (.own a zs2), some (.val (.int (size : Int))), some (.own p (dI (if first = true then l else cs))), some (.own q (dI (if first = true then fs else l))), some (.val (.int way)), w5, some (.val x), some (.val (.adr (if first = true then p else q)))] : Ro).set j (some (.own (if first = true then p else q) (xs1 ++ [.int y])))) := by
      intro y zs2 hy hz2
      cases first with
      | true => exact ⟨2, dI l, by simp, rfl, hzl, hK _ ⟨l ++ [y], zs2, some (.val x), by simp; omega, hp.snoc hy, hz2.mono (by simp; omega), by rw [dI_snocB]; rfl⟩⟩
      | false => exact ⟨3, dI l, by simp, rfl, hzl, hK _ ⟨l ++ [y], zs2, some (.val x), by simp; omega, hp.snoc hy, hz2.mono (by simp; omega), by rw [dI_snocB]; rfl⟩⟩
    have there : ∃ j ∈ [2, 3], ∃ xs, ([some (.own a zs), some (.val (.int (size : Int))), some (.own p (dI (if first = true then l else cs))), some (.own q (dI (if first = true then fs else l))), some (.val (.int way)), w5, some (.val x), some (.val (.adr (if first = true then p else q)))] : Ro)[j]? = some (some (.own (if first = true then p else q) xs)) := by
      cases first with
      | true => exact ⟨2, by simp, _, rfl⟩
      | false => exact ⟨3, by simp, _, rfl⟩
    refine ⟨_, rfl, there, ifB (fun h => ?_) (fun h => ?_)⟩
    · exact ⟨zs, rfl, rfl, _, by omega, hz, rfl, fun s zs2 s0 _ hz2 => fin s zs2 s0 hz2⟩
    · exact ⟨zs, rfl, rfl, _, 3, by omega, hz, rfl, by decide, by decide, fun s zs2 s0 _ hz2 => fin s zs2 s0 (hz2.mono (by omega))⟩
  · obtain ⟨l, zs, w6, e1, hp, hz, rfl⟩ := hI
    have e1 : (0 : Int) + l.length = m := e1
    exact hP l zs w6 (by omega) hp (hz.mono (by omega))
  · cases first with
    | true => have hf : cs = [] := hf; subst hf; rfl
    | false => have hf : fs = [] := hf; subst hf; rfl
end Pl
namespace Pl
open PySem PySem.Spec PyProof.Rows L2
theorem rd__law_books : ∀ a xs ds C, ds.length + 1 = 2 → g__law_books xs ds C → T__law_books (g_take 100000000000000) g__law_slope { nx := fun ρ => ∃ ys, ρ[0]? = some (some (.own a ys)) ∧ C (.val .non) ys, rt := fun c ρ => ∃ ys, ρ[0]? = some (some (.own a ys)) ∧ C c ys } (startB N__law_books a xs ds) := by
  rintro a xs ds C - ⟨n, size, hn, hB, rfl, hs, hC⟩
  have h0 : (0 : Nat) ≤ sizeLine := Nat.zero_le _
  have h2 : (2 : Nat) ≤ sizeLine := by decide
  refine ⟨h0, fun p => ⟨h0, fun q => ?_⟩⟩
  refine ⟨xs, rfl, rfl, n, 4, by omega, hB, rfl, by decide, by decide, fun way zs1 a1 a2 hz1 => ⟨sh_int _, sh_int _, ifB (fun h => ?_) (fun h => ?_)⟩⟩
  · refine ⟨zs1, rfl, rfl, _, 60, by omega, hz1, rfl, by decide, by decide, fun sl zs2 b1 b2 hz2 => ?_⟩
    refine ⟨.inl ⟨by decide, by decide⟩, zs2, rfl, rfl, _, 2 * ((size : Nat) : Int) + 1, by omega, hz2, rfl, by omega, by omega, fun m zs3 m1 m2 hz3 => ⟨by omega, by omega, ?_⟩⟩
    refine for_inv (fun ds ρ => (∀ d ∈ ds, ∃ t : Int, d = .int t ∧ 0 ≤ t ∧ t ≤ 1000) ∧ ∃ (cs fs : List Int) (s : Int) (zs : List D) (w6 w7 : Option Cell) (k : Nat), k + ds.length ≤ 130 ∧ cs.length ≤ k ∧ fs.length ≤ k ∧ Pos0 cs ∧ Pos0 fs ∧ 0 ≤ s ∧ Bx (n + 10 + 6 * k) zs ∧ ρ = [some (.own a zs), some (.val (.int (size : Int))), some (.own p (dI cs)), some (.own q (dI fs)), some (.val (.int way)), some (.val (.int s)), w6, w7]) (fun x r ρ K hK hI => ?_) (fun ρ hI => ?_) _ _ ⟨fun d hd => ?_, [], [], 40 + sl, zs3, none, none, 0, by simp [rangeD]; omega, by simp, by simp, fun x h => by simp at h, fun x h => by simp at h, by omega, hz3.mono (by omega), rfl⟩
    · obtain ⟨hd, cs, fs, s, zs, w6, w7, k, hk, hc, hf, pc, pf, hs0, hz, rfl⟩ := hI
      obtain ⟨t, rfl, t0, t1⟩ := hd x (by simp)
      have hk : k + (r.length + 1) ≤ 130 := hk
      refine ⟨p, dI cs, rfl, q, dI fs, rfl, h2, zs, rfl, rfl, _, 2, by omega, hz, rfl, by decide, by decide, fun u zs4 u1 u2 hz4 => ?_⟩
      refine ⟨zs4, rfl, rfl, _, 2, by omega, hz4, rfl, by decide, by decide, fun v zs5 v1 v2 hz5 => ?_⟩
      refine ⟨.inl ⟨by show (-(2 ^ 64) : Int) < u; omega, by show u < (2 ^ 64 : Int); omega⟩, by show (0 : Int) < 2; decide, ?_⟩
      have hix : (t + u * v) % 2 = 0 ∨ (t + u * v) % 2 = 1 := by omega
      have fin : ∀ (first : Bool) (zs6 : List D), Bx (n + 10 + 6 * k + 6) zs6 → ∀ y : Int, 0 ≤ y → K [some (.own a zs6), some (.val (.int (size : Int))), some (.own p (dI (if first = true then cs ++ [s] else cs))), some (.own q (dI (if first = true then fs else fs ++ [s]))), some (.val (.int way)), some (.val (.int y)), some (.val (.int t)), some (.val (.adr (if first = true then p else q)))] := by
        intro first zs6 hz6 y hy
        cases first with
        | true => exact hK _ ⟨fun d hd' => hd d (by simp [hd']), cs ++ [s], fs, y, zs6, _, _, k + 1, by omega, by simp; omega, by omega, pc.snoc hs0, pf, hy, hz6.mono (by omega), rfl⟩
        | false => exact hK _ ⟨fun d hd' => hd d (by simp [hd']), cs, fs ++ [s], y, zs6, _, _, k + 1, by omega, by omega, by simp; omega, pc, pf.snoc hs0, hy, hz6.mono (by omega), rfl⟩
      have zc : (dI cs).length < sizeLine := small1000 (by rw [ints_len]; omega)
      have zf : (dI fs).length < sizeLine := small1000 (by rw [ints_len]; omega)
      rcases hix with e | e
      · refine ⟨.adr p, by show atI [D.adr p, .adr q] ((t + u * v) % 2) = _; rw [e]; rfl, ?_⟩
        refine ⟨p, rfl, ⟨2, by simp, _, rfl⟩, 2, dI cs, by simp, rfl, zc, ?_⟩
        refine ⟨zs5, rfl, rfl, _, 9, by omega, hz5, rfl, by decide, by decide, fun y zs6 _ _ hz6 => ?_⟩
        have := fin true zs6 (hz6.mono (by omega)) (max 0 (s - 1 - y)) (by omega)
        rw [if_pos rfl, if_pos rfl, if_pos rfl, ← dI_snocB] at this
        exact this
      · refine ⟨.adr q, by show atI [D.adr p, .adr q] ((t + u * v) % 2) = _; rw [e]; rfl, ?_⟩
        refine ⟨q, rfl, ⟨3, by simp, _, rfl⟩, 3, dI fs, by simp, rfl, zf, ?_⟩
        refine ⟨zs5, rfl, rfl, _, 9, by omega, hz5, rfl, by decide, by decide, fun y zs6 _ _ hz6 => ?_⟩
        have := fin false zs6 (hz6.mono (by omega)) (max 0 (s - 1 - y)) (by omega)
        rw [if_neg (by decide), if_neg (by decide), if_neg (by decide), ← dI_snocB fs] at this
        exact this
    · obtain ⟨hd, cs, fs, s, zs, w6, w7, k, hk, hc, hf, pc, pf, hs0, hz, rfl⟩ := hI
      have e1 : cutD (dI cs) none (some (size : Int)) = dI (cs.take size) := by rw [cutD_to, dI_take]
      have e2 : cutD (dI fs) none (some (size : Int)) = dI (fs.take size) := by rw [cutD_to, dI_take]
      have := hC (cs.take size) (fs.take size) zs (by rw [List.length_take]; omega) (by rw [List.length_take]; omega) (pc.take _) (pf.take _) (hz.mono (by have : k + 0 ≤ 130 := hk; omega))
      rw [← e1, ← e2] at this
      exact ⟨h2, zs, rfl, this⟩
    · unfold rangeD at hd
      obtain ⟨i, hi, rfl⟩ := List.mem_map.mp hd
      have := List.mem_range.mp hi
      exact ⟨_, rfl, by omega, by omega⟩
  · refine ⟨p, [], rfl, q, [], rfl, h2, ?_⟩
    refine books_one (n := n + 2) (first := true) (cs := []) (fs := []) (by omega) hs hz1 rfl fun l zs2 w6 hl hp hz2 => ?_
    refine books_one (n := n + 2 + 400) (first := false) (cs := l) (fs := []) (by omega) hs hz2 rfl fun l2 zs3 w6 hl2 hp2 hz3 => ?_
    exact ⟨h2, zs3, rfl, hC l l2 zs3 hl hl2 hp hp2 (hz3.mono (by omega))⟩
end Pl
namespace Pl
open PySem PySem.Spec PyProof.Rows L2
variable [TJ]
/-! ### name.pop() -/
theorem Reps.dropLast {K : PySem.W.Frag} {F : Hp} : ∀ {vs : List V} {ds : List D}, Reps K F vs ds → Reps K F vs.dropLast ds.dropLast
  | _, _, .nil => .nil
  | _, _, .cons _ .nil => .nil
  | _, _, .cons r (.cons r2 t) => .cons r (Reps.dropLast (.cons r2 t))
section
variable {X : Cx}
def pPop0 (i : Nat) : TEp := fun ρ Q => match ρ[i]? with
  | some (some (.own a xs)) => ∃ v, xs[xs.length - 1]? = some v ∧ Q v (ρ.set i (some (.own a xs.dropLast)))
  | _ => False
theorem ppe_pop0 (i : Nat) {x : Str} {p ap cp : Pos} (hN : X.N[i]? = some x := by rfl) (hv : Vis X.env.scope x := by first | exact Or.inl rfl | exact Or.inr (Or.inl rfl) | exact Or.inr (Or.inr rfl)) (hd : (x == ("__debug__" : Str)) = false := by decide)
    (hcd : (x == ("__classdict__" : Str)) = false := by decide)
    (hbase : attributeBase (.Name x p) "pop" X.env (eval (.Name x p) X.env) = eval (.Name x p) X.env := by rfl)
    (hline : (ap.endLine == cp.line) = true := by rfl) :
    PPE X (.Call (.Attribute (.Name x p) "pop" ap) [] [] cp) (tBM0 X.K "list" rPop (tVar i)) (pPop0 i) := ⟨pe_bm0 PySem.F.plainAttrs_list PySem.F.slot_list_pop PySem.F.type_list_pop mt_pop (pe_var hN hv hd hcd) hbase hline, fun G F H σ ρ Q R S hT k => by
  unfold pPop0 at hT
  split at hT
  · rename_i a xs e0
    obtain ⟨v, ev, q⟩ := hT
    obtain ⟨h1, h2, h3, vs, h4, h5⟩ := S.own i a xs e0
    obtain ⟨w, hw, rw'⟩ := h5.get ev
    refine ⟨.ref a, h1, .inl ⟨rfl, _, SqL.of h4⟩, a, vs, w, rfl, rfl, h4, by rw [h5.length]; exact hw, k w v F _ _ (.refl _ _) (S.mut e0 h5.dropLast) rw' q⟩
  · exact hT.elim⟩
end
/-! ### [*e, ..] -/
section
variable {X : Cx} {e : Expr} {es : List Expr} {te : TE} {Te : TEp} {t : TA} {T : TAp} {p : Pos}
def pStar (Te : TEp) (T : TAp) : TAp := fun ρ Q => Te ρ fun d ρ1 => asSeq d fun xs => T ρ1 fun ys ρ2 => Q (xs ++ ys) ρ2
theorem ppa_star (he : PPE X e te Te) (hr : PPA X es t T) (hs : starEach (.Starred e p :: es) X.env = (true, eval e X.env) :: starEach es X.env := by rfl) : PPA X (.Starred e p :: es) (StX.tStar X.K te t) (pStar Te T) := ⟨StX.pa_star he.pe hr.pa hs, fun G F H σ ρ Q R S hT k =>
  he.snd G F H σ ρ _ _ S hT fun v d F1 H1 ρ1 u1 S1 r1 q1 => by
    obtain ⟨a, b, vs, ds, rfl, e1, rs, q⟩ := r1.seq q1
    refine ⟨a, vs, rfl, ?_, hr.snd G F1 H1 σ ρ1 _ _ S1 q fun ws es2 F2 H2 ρ2 u2 S2 r2 q2 => k (vs ++ ws) (ds ++ es2) F2 H2 ρ2 (u1.trans u2) S2 ((rs.mono u2.ex).append r2) q2⟩
    cases b with
    | true => exact .inr (SqL.of (S1.hF _ _ e1))
    | false => exact .inl (SqT.of (S1.hF _ _ e1))⟩
end
/-! ### f(made, e, ..): the first argument is a list made on the spot, and may be changed -/
theorem Sim.moreG {K : PySem.W.Frag} {G F H : Hp} {σ : L2.St} {ρ : Ro} (S : Sim K G F H σ ρ) {a : Addr} {vs : List V} (hH : H a = some (.lst vs)) (hG : G a = none) (hn : NotOwn ρ a) : Sim K (upd G a (.lst vs)) F H σ ρ := by
  refine ⟨S.hF, S.hG.guard hH, S.len, S.val, fun i b xs e => ?_, S.ne⟩
  · obtain ⟨h1, h2, h3, h4⟩ := S.own i b xs e
    have q : b ≠ a := fun z => by subst z; exact hn i xs e
    exact ⟨h1, h2, by rw [upd_ne q]; exact h3, h4⟩
theorem Sim.lessG {K : PySem.W.Frag} {G G' F H : Hp} {σ : L2.St} {ρ : Ro} (S : Sim K G' F H σ ρ) (h : Same G G') : Sim K G F H σ ρ :=
  ⟨S.hF, S.hG.less h, S.len, S.val, fun i b xs e => let ⟨h1, h2, h3, h4⟩ := S.own i b xs e; ⟨h1, h2, h.free h3, h4⟩, S.ne⟩
theorem Sim.mid {K : PySem.W.Frag} {G F H : Hp} {σ : L2.St} {ρ : Ro} {u v : V} {b c : Cell} (S : Sim K G F H ((σ ++ [some u]) ++ [some v]) ((ρ ++ [some b]) ++ [some c])) : Sim K G F H (σ ++ [some v]) (ρ ++ [some c]) := by
  have B := S.drop.drop
  cases c with
  | val d => exact B.pushVal S.lastVal
  | own a xs =>
    obtain ⟨rfl, h2, h3, h4, vs, h5, h6⟩ := S.lastOwn
    refine B.pushOwn h5 h2 h3 (fun i ys e => h4 i ys ?_) h6
    rw [List.getElem?_append_left (lt_of_get e)]; exact e
section
variable {X : Cx} {k : Nat} {f : Addr} {fd : FuncData} {ps : List Str} {x : Str} {p pos : Pos} {e : Expr} {es : List Expr} {te : TE} {Tc : TCp} {t : TA} {T : TAp} {n : Nat}
def pCallX (n : Nat) (g : FB) (Tc : TCp) (T : TAp) : TCp := fun ρ Q => Tc ρ fun c ρ1 => match c with
  | .own _ xs => T ρ1 fun ds ρ2 => ds.length + 1 = n ∧ g xs ds fun c' _ => Q c' ρ2
  | .val _ => False
theorem ppc_callX {g : FB} (Fn : FnOk X.prog X.w X.K X.mg X.base CX0 k f fd ps (spB X.K n g)) (hr : Room k X.A) (hg : Gl X x) (hm : X.mg x = some (.ref f)) (hk : PySem.W.keepIn X.K (.ref f) = true) (hb : Binds X.K fd ps []) (hc : PPC X e te Tc) (ha : PPA X es t T)
    (hdb : (x == ("__debug__" : Str)) = false := by decide) (he : starEach (e :: es) X.env = (false, eval e X.env) :: starEach es X.env := by rfl) (hpl : (backTo pos (starEach es X.env)).any (·.1) = false := by rfl) :
    PPC X (.Call (.Name x p) (e :: es) [] pos) (tCall (spB X.K n g) [] (fun _ _ _ => False) (tCons te t)) (pCallX n g Tc T) := ⟨pe_call Fn hr hg hm hk hb .nil pass0 (pa_cons hc.pe ha.pa he) hdb he hpl, fun G F H σ ρ Q R S hT k =>
  hc.snd G F H σ ρ _ _ S hT fun v c F1 H1 ρ1 u1 S1 q1 => by
    cases c with
    | val d => exact q1.elim
    | own a xs =>
      obtain ⟨rfl, h2, h3, h4, us, h5, h6⟩ := S1.lastOwn
      have sG : Same G (upd G a (.lst us)) := same_new h3
      refine ha.snd (upd G a (.lst us)) F1 H1 σ ρ1 _ _ (S1.drop.moreG h5 h3 h4) q1 fun vs ds F2 H2 ρ2 u2 S2 r2 q2 => ?_
      have hH2 : H2 a = some (.lst us) := S2.hG a _ upd_same
      have hF2 : F2 a = none := u2.isNone h2 upd_same
      have hn2 : NotOwn ρ2 a := fun i ys z => by
        obtain ⟨_, _, g3, _⟩ := S2.own i a ys z
        rw [upd_same] at g3; cases g3
      have S3 := (S2.lessG sG).pushOwn hH2 hF2 h3 hn2 (h6.mono u2.ex)
      show spB X.K n g ((.ref a :: vs) ++ []) H2 R _
      rw [List.append_nil]
      refine ⟨F2, a, us, xs, vs, ds, _, rfl, by rw [List.length_cons, r2.length]; exact q2.1, S2.hF, hF2, hH2, h6.mono u2.ex, r2, q2.2, fun v c xs' F' H' u S' q => ?_⟩
      have hGh : Same G (hide H2 a) := fun b o qq => by
        have nb : b ≠ a := fun z => by rw [z, h3] at qq; cases qq
        rw [hide_ne nb]; exact S2.hG b o (sG b o qq)
      have S4 := S3.afterB (xs := xs) (i := ρ2.length) (by simp) u S'
      rw [show (ρ2 ++ [some (Cell.own a xs)]).set ρ2.length (some (.own a xs')) = ρ2 ++ [some (.own a xs')] by simp] at S4
      exact k v c F' H' ρ2 ((u1.trans (u2.less sG)).trans (u.less hGh)) S4.mid q⟩
end
end Pl
namespace Pl
open PySem PySem.Spec PyProof.Rows L2
/-! ### words for loops and comprehensions, by any list of things -/
section
variable {α β : Type} {vs : List Nat} {g : TGp} {tt : TTp} {te : TEp} {tb : TSp} {P : PEnds} {Q : List D → Ro → Prop} {ρ : Ro}
/-- [.. for x in xs] -/
theorem lc_mp {ds : List D} (xs : List α) (d f : α → D) (e : ds = xs.map d) (h : ∀ x ∈ xs, ElemOk vs g te ρ (d x) (f x)) (hl : xs.length ≤ 1000) (hQ : Q (xs.map f) ρ) : lcW vs g pYes te Q ds [] ρ := by
  subst e
  exact lcW_mapS xs [] h (by rw [List.length_nil, Nat.zero_add]; exact sl1000 hl) hQ
/-- one item where there is a test -/
def ElemIf (vs : List Nat) (g : TGp) (tt : TTp) (te : TEp) (ρ : Ro) (d : D) (p : Bool) (y : D) : Prop := ∀ (K : Bool → Ro → Prop), (∀ ρ3, restore ρ ρ3 vs = ρ → (p = true → ∀ K2 : D → Ro → Prop, (∀ ρ4, restore ρ ρ4 vs = ρ → K2 y ρ4) → te ρ3 K2) → K p ρ3) → g d (wipeP ρ vs) fun ρ2 => tt ρ2 K
theorem lcW_fl : ∀ (xs : List α) (d f : α → D) (p : α → Bool) (acc : List D), (∀ x ∈ xs, ElemIf vs g tt te ρ (d x) (p x) (f x)) → acc.length + xs.length ≤ sizeLine → Q (acc ++ (xs.filter p).map f) ρ → lcW vs g tt te Q (xs.map d) acc ρ
  | [], d, f, p, acc, _, _, hQ => by
    have hQ : Q (acc ++ []) ρ := hQ
    rw [List.append_nil] at hQ
    exact hQ
  | x :: xs, d, f, p, acc, h, hl, hQ => by
    have hl' : acc.length + (xs.length + 1) ≤ sizeLine := hl
    refine h x (by simp) _ fun ρ3 e3 ht => ?_
    cases hp : p x with
    | true =>
      refine ite_ti (ht hp _ fun ρ4 e4 => ⟨by omega, ?_⟩)
      rw [e4]
      refine lcW_fl xs d f p _ (fun y hy => h y (by simp [hy])) (by rw [List.length_append]; show acc.length + 1 + xs.length ≤ sizeLine; omega) ?_
      rw [List.filter_cons_of_pos hp, List.map_cons] at hQ
      rw [List.append_assoc]
      exact hQ
    | false =>
      refine ite_fi ?_
      rw [e3]
      refine lcW_fl xs d f p _ (fun y hy => h y (by simp [hy])) (by omega) ?_
      rw [List.filter_cons_of_neg (by rw [hp]; decide)] at hQ
      exact hQ
theorem lc_fl {ds : List D} (xs : List α) (d f : α → D) (p : α → Bool) (e : ds = xs.map d) (h : ∀ x ∈ xs, ElemIf vs g tt te ρ (d x) (p x) (f x)) (hl : xs.length ≤ 1000) (hQ : Q ((xs.filter p).map f) ρ) : lcW vs g tt te Q ds [] ρ := by
  subst e
  exact lcW_fl xs d f p [] h (by rw [List.length_nil, Nat.zero_add]; exact sl1000 hl) hQ
theorem rangeD_nat (n : Nat) : rangeD 0 n = (List.range n).map fun (j : Nat) => D.int (j : Int) := by
  unfold rangeD
  apply List.map_congr_left
  intro j _
  rw [Int.zero_add]
theorem rangeD_nat' (a n : Nat) : rangeD (a : Int) n = (List.range' a n).map fun (j : Nat) => D.int (j : Int) := by
  have e : List.range' a n = (List.range n).map (a + ·) := by
    rw [List.range_eq_range', List.map_add_range']; rfl
  unfold rangeD
  rw [e, List.map_map]
  apply List.map_congr_left
  intro j _
  show D.int ((a : Int) + (j : Int)) = .int ((a + j : Nat) : Int)
  rw [show ((a + j : Nat) : Int) = (a : Int) + (j : Int) by omega]
/-- [.. for j in range(n)] -/
theorem lc_rg {m : Nat} (n : Nat) (f : Nat → D) (e : m = n) (h : ∀ j, j < n → ElemOk vs g te ρ (.int (j : Int)) (f j)) (hl : n ≤ 1000) (hQ : Q ((List.range n).map f) ρ) : lcW vs g pYes te Q (rangeD 0 m) [] ρ :=
  lc_mp (List.range n) (fun (j : Nat) => .int (j : Int)) f (by rw [e, rangeD_nat]) (fun j hj => h j (List.mem_range.mp hj)) (by simpa using hl) hQ
theorem enumD_map (d : α → D) : ∀ (xs : List α) (k : Nat), enumD k (xs.map d) = (xs.zipIdx k).map fun p => .tup [.int ((p.2 : Nat) : Int), d p.1]
  | [], _ => rfl
  | x :: xs, k => by
    show D.tup [.int (k : Int), d x] :: enumD (k + 1) (xs.map d) = _
    rw [enumD_map d xs]; rfl
/-- [.. for k, x in enumerate(xs)] -/
theorem lc_en {ds : List D} (xs : List α) (d : α → D) (f : Nat → α → D) (e : ds = xs.map d) (h : ∀ (k : Nat) (x : α), xs[k]? = some x → ElemOk vs g te ρ (.tup [.int (k : Int), d x]) (f k x)) (hl : xs.length ≤ 1000) (hQ : Q ((xs.zipIdx).map fun p => f p.2 p.1) ρ) : lcW vs g pYes te Q (enumD 0 ds) [] ρ := by
  subst e
  refine lc_mp xs.zipIdx (fun p => .tup [.int ((p.2 : Nat) : Int), d p.1]) (fun p => f p.2 p.1) (enumD_map d xs 0) (fun p hp => ?_) (by simpa using hl) hQ
  obtain ⟨x, k⟩ := p
  exact h k x (List.mem_zipIdx_iff_getElem?.mp hp)
theorem lc_enf {ds : List D} (xs : List α) (d : α → D) (f : Nat → α → D) (p : Nat → α → Bool) (e : ds = xs.map d) (h : ∀ (k : Nat) (x : α), xs[k]? = some x → ElemIf vs g tt te ρ (.tup [.int (k : Int), d x]) (p k x) (f k x)) (hl : xs.length ≤ 1000) (hQ : Q (((xs.zipIdx).filter fun z => p z.2 z.1).map fun z => f z.2 z.1) ρ) : lcW vs g tt te Q (enumD 0 ds) [] ρ := by
  subst e
  refine lc_fl xs.zipIdx (fun p => .tup [.int ((p.2 : Nat) : Int), d p.1]) (fun p => f p.2 p.1) (fun z => p z.2 z.1) (enumD_map d xs 0) (fun p hp => ?_) (by simpa using hl) hQ
  obtain ⟨x, k⟩ := p
  exact h k x (List.mem_zipIdx_iff_getElem?.mp hp)
theorem zipD_map (d : α → D) (d' : β → D) : ∀ (xs : List α) (ys : List β), zipD (xs.map d) (ys.map d') = (xs.zip ys).map fun p => .tup [d p.1, d' p.2]
  | [], _ => rfl
  | _ :: _, [] => rfl
  | x :: xs, y :: ys => by
    show D.tup [d x, d' y] :: zipD (xs.map d) (ys.map d') = _
    rw [zipD_map d d' xs ys]; rfl
/-- [.. for x, y in zip(xs, ys)] -/
theorem lc_zp {ds es : List D} (xs : List α) (ys : List β) (d : α → D) (d' : β → D) (f : α → β → D) (e1 : ds = xs.map d) (e2 : es = ys.map d') (h : ∀ x y, (x, y) ∈ xs.zip ys → ElemOk vs g te ρ (.tup [d x, d' y]) (f x y)) (hl : xs.length ≤ 1000) (hQ : Q ((xs.zip ys).map fun p => f p.1 p.2) ρ) : lcW vs g pYes te Q (zipD ds es) [] ρ := by
  subst e1 e2
  refine lc_mp (xs.zip ys) (fun p => .tup [d p.1, d' p.2]) (fun p => f p.1 p.2) (zipD_map d d' xs ys) (fun p hp => h p.1 p.2 hp) ?_ hQ
  rw [List.length_zip]; omega
/-! for -/
theorem forW_mp : ∀ (xs : List α) (d : α → D) (ρ : Ro) (I : List α → Ro → Prop), I xs ρ → (∀ (x : α) (r : List α) (ρ : Ro) (K : Ro → Prop), I (x :: r) ρ → (∀ ρ', I r ρ' → K ρ') → g (d x) ρ fun ρ1 => tb { P with nx := K, ct := K, bk := P.nx } ρ1) → (∀ ρ, I [] ρ → P.nx ρ) → forW g tb P (xs.map d) ρ
  | [], d, ρ, I, h, _, he => he ρ h
  | x :: xs, d, ρ, I, h, hs, he => hs x xs ρ _ h fun ρ' h' => forW_mp xs d ρ' I h' hs he
/-- for x in xs: what holds, by what is left -/
theorem fr_mp {ds : List D} (xs : List α) (d : α → D) (I : List α → Ro → Prop) (e : ds = xs.map d) (h0 : I xs ρ) (hs : ∀ (x : α) (r : List α) (ρ : Ro) (K : Ro → Prop), I (x :: r) ρ → (∀ ρ', I r ρ' → K ρ') → g (d x) ρ fun ρ1 => tb { P with nx := K, ct := K, bk := P.nx } ρ1) (he : ∀ ρ, I [] ρ → P.nx ρ) : forW g tb P ds ρ := by
  subst e
  exact forW_mp xs d ρ I h0 hs he
theorem forW_rg (I : Nat → Ro → Prop) (n : Nat) (hs : ∀ (j : Nat) (ρ : Ro) (K : Ro → Prop), j < n → I j ρ → (∀ ρ', I (j + 1) ρ' → K ρ') → g (.int (j : Int)) ρ fun ρ1 => tb { P with nx := K, ct := K, bk := P.nx } ρ1) (he : ∀ ρ, I n ρ → P.nx ρ) : ∀ (k j : Nat) (ρ : Ro), k + j = n → I j ρ → forW g tb P ((List.range' j k).map fun (j : Nat) => D.int (j : Int)) ρ
  | 0, j, ρ, e, h => he ρ (by rw [← e, Nat.zero_add]; exact h)
  | k + 1, j, ρ, e, h => by
    rw [List.range'_succ, List.map_cons]
    exact hs j ρ _ (by omega) h fun ρ' h' => forW_rg I n hs he k (j + 1) ρ' (by omega) h'
/-- for j in range(n): what holds ahead of turn j -/
theorem fr_rg {m : Nat} (n : Nat) (I : Nat → Ro → Prop) (e : m = n) (h0 : I 0 ρ) (hs : ∀ (j : Nat) (ρ : Ro) (K : Ro → Prop), j < n → I j ρ → (∀ ρ', I (j + 1) ρ' → K ρ') → g (.int (j : Int)) ρ fun ρ1 => tb { P with nx := K, ct := K, bk := P.nx } ρ1) (he : ∀ ρ, I n ρ → P.nx ρ) : forW g tb P (rangeD 0 m) ρ := by
  subst e
  rw [rangeD_nat, List.range_eq_range']
  exact forW_rg I m hs he m 0 ρ (by omega) h0
/-- for k, x in enumerate(xs) -/
theorem fr_en {ds : List D} (xs : List α) (d : α → D) (I : Nat → List α → Ro → Prop) (e : ds = xs.map d) (h0 : I 0 xs ρ) (hs : ∀ (k : Nat) (x : α) (r : List α) (ρ : Ro) (K : Ro → Prop), I k (x :: r) ρ → (∀ ρ', I (k + 1) r ρ' → K ρ') → g (.tup [.int (k : Int), d x]) ρ fun ρ1 => tb { P with nx := K, ct := K, bk := P.nx } ρ1) (he : ∀ k ρ, I k [] ρ → P.nx ρ) : forW g tb P (enumD 0 ds) ρ := by
  subst e
  have key : ∀ (xs : List α) (k : Nat) (ρ : Ro), I k xs ρ → forW g tb P (enumD k (xs.map d)) ρ := by
    intro xs
    induction xs with
    | nil => exact fun k ρ h => he k ρ h
    | cons x xs ih => exact fun k ρ h => hs k x xs ρ _ h fun ρ' h' => ih (k + 1) ρ' h'
  exact key xs 0 ρ h0
/-- for x, y in zip(xs, ys) -/
theorem fr_zp {ds es : List D} (xs : List α) (ys : List β) (d : α → D) (d' : β → D) (I : List (α × β) → Ro → Prop) (e1 : ds = xs.map d) (e2 : es = ys.map d') (h0 : I (xs.zip ys) ρ) (hs : ∀ (x : α) (y : β) (r : List (α × β)) (ρ : Ro) (K : Ro → Prop), I ((x, y) :: r) ρ → (∀ ρ', I r ρ' → K ρ') → g (.tup [d x, d' y]) ρ fun ρ1 => tb { P with nx := K, ct := K, bk := P.nx } ρ1) (he : ∀ ρ, I [] ρ → P.nx ρ) : forW g tb P (zipD ds es) ρ := by
  subst e1 e2
  exact fr_mp (xs.zip ys) (fun p => .tup [d p.1, d' p.2]) I (zipD_map d d' xs ys) h0 (fun p r ρ K h hK => hs p.1 p.2 r ρ K h hK) he
end
theorem all_bl {α : Type} (xs : List α) (p : α → Bool) : (xs.map fun x => D.bl (p x)) = (xs.map p).map D.bl := by rw [List.map_map]; rfl
theorem dI_map {α : Type} (xs : List α) (f : α → Int) : (xs.map fun x => D.int (f x)) = dI (xs.map f) := by unfold dI; rw [List.map_map]; rfl
end Pl
namespace Pl
open PySem PySem.Spec PyProof.Rows L2
variable [TJ]
/-! ### a look at own lists that leaves them one's own: a scalar comes out -/
def Cell.shut : Option Cell → Option Cell
  | some (.own _ xs) => some (.val (.lst xs))
  | x => x
def frzAll (ρ : Ro) : Ro := ρ.map Cell.shut
def isOwn (ρ : Ro) (b : Addr) : Prop := ∃ (i : Nat) (xs : List D), ρ[i]? = some (some (.own b xs))
open Classical in
noncomputable def shutF (ρ : Ro) (F H : Hp) : Hp := fun b => if isOwn ρ b then H b else F b
section
variable {K : PySem.W.Frag} {G F H : Hp} {σ : L2.St} {ρ : Ro}
theorem shut_own {b : Addr} (h : isOwn ρ b) : shutF ρ F H b = H b := by unfold shutF; rw [if_pos h]
theorem shut_not {b : Addr} (h : ¬ isOwn ρ b) : shutF ρ F H b = F b := by unfold shutF; rw [if_neg h]
theorem frz_get {i : Nat} {c : Cell} (h : (frzAll ρ)[i]? = some (some c)) : (∃ d, ρ[i]? = some (some (.val d)) ∧ c = .val d) ∨ ∃ a xs, ρ[i]? = some (some (.own a xs)) ∧ c = .val (.lst xs) := by
  unfold frzAll at h
  rw [List.getElem?_map] at h
  cases q : ρ[i]? with
  | none => rw [q] at h; cases h
  | some o =>
    rw [q] at h
    have h : Cell.shut o = some c := Option.some.inj h
    cases o with
    | none => cases h
    | some c' =>
      cases c' with
      | val d => cases h; exact .inl ⟨d, rfl, rfl⟩
      | own a xs => cases h; exact .inr ⟨a, xs, rfl, rfl⟩
theorem Sim.shut (S : Sim K G F H σ ρ) : Up G F (shutF ρ F H) ∧ Sim K G (shutF ρ F H) H σ (frzAll ρ) := by
  have fresh : ∀ b, isOwn ρ b → F b = none ∧ G b = none := fun b ⟨i, xs, e⟩ => ⟨(S.own i b xs e).2.1, (S.own i b xs e).2.2.1⟩
  have sm : Same F (shutF ρ F H) := fun b o e => by
    rw [shut_not fun h => by rw [(fresh b h).1] at e; cases e]; exact e
  refine ⟨⟨sm, fun b o e => ?_⟩, fun b o e => ?_, S.hG.froz fun b o e => ?_, by rw [S.len]; unfold frzAll; simp, fun i d e => ?_, fun i a xs e => ?_, fun i j a xs ys e1 e2 => ?_⟩
  · by_cases h : isOwn ρ b
    · exact .inr (fresh b h).2
    · rw [shut_not h] at e; exact .inl e
  · by_cases h : isOwn ρ b
    · rw [shut_own h] at e; exact e
    · rw [shut_not h] at e; exact S.hF b o e
  · by_cases h : isOwn ρ b
    · obtain ⟨i, xs, e'⟩ := h
      obtain ⟨_, _, _, vs, h4, _⟩ := S.own i b xs e'
      exact .inr ⟨vs, h4⟩
    · rw [shut_not h] at e; exact .inl e
  · rcases frz_get e with ⟨d', q, z⟩ | ⟨a, xs, q, z⟩
    · cases z
      obtain ⟨v, h1, h2⟩ := S.val i d q
      exact ⟨v, h1, h2.mono sm⟩
    · cases z
      obtain ⟨h1, h2, h3, vs, h4, h5⟩ := S.own i a xs q
      exact ⟨_, h1, .lst (by rw [shut_own ⟨i, xs, q⟩]; exact h4) (h5.mono sm)⟩
  · rcases frz_get e with ⟨d', q, z⟩ | ⟨a', xs', q, z⟩ <;> cases z
  · rcases frz_get e1 with ⟨d', q, z⟩ | ⟨a', xs', q, z⟩ <;> cases z
theorem Sim.unshut {F2 H2 : Hp} {ρ2 : Ro} (S : Sim K G F H σ ρ) (u : Up G (shutF ρ F H) F2) (S2 : Sim K G F2 H2 σ ρ2) : Sim K G F H2 σ ρ := by
  refine ⟨(S.shut.1.ex.trans u.ex).trans S2.hF, S2.hG.step (.refl _) fun b o e => .inl ((S.shut.1.ex.trans u.ex) b o e), S.len, S.val, fun i a xs e => ?_, S.ne⟩
  obtain ⟨h1, h2, h3, vs, h4, h5⟩ := S.own i a xs e
  refine ⟨h1, h2, h3, vs, S2.hF a _ (u.ex a _ ?_), h5⟩
  rw [shut_own ⟨i, xs, e⟩]; exact h4
end
section
variable {X : Cx} {e : Expr} {te : TE} {Te : TEp}
def pPeek (Te : TEp) : TEp := fun ρ Q => Te (frzAll ρ) fun d _ => match d with
  | .bl b => Q (.bl b) ρ
  | .int i => Q (.int i) ρ
  | .str z => Q (.str z) ρ
  | .non => Q .non ρ
  | _ => False
theorem ppe_peek (he : PPE X e te Te) : PPE X e te (pPeek Te) := ⟨he.pe, fun G F H σ ρ Q R S hT k =>
  he.snd G (shutF ρ F H) H σ (frzAll ρ) _ _ S.shut.2 hT fun v d F2 H2 ρ2 u2 S2 r2 q2 => by
    have S3 := S.unshut u2 S2
    cases r2 with
    | non => exact k _ _ F H2 ρ (.refl _ _) S3 .non q2
    | bl b => exact k _ _ F H2 ρ (.refl _ _) S3 (.bl b) q2
    | int i => exact k _ _ F H2 ρ (.refl _ _) S3 (.int i) q2
    | str z => exact k _ _ F H2 ρ (.refl _ _) S3 (.str z) q2
    | _ => exact q2.elim⟩
end
theorem ppt_peek {X : Cx} {e : Expr} {t : TT} {T : TEp} (h : PPT X e t (pTest T)) : PPT X e t (pTest (pPeek T)) := ⟨h.pt, fun G F H σ ρ Q R S hT k => by
  have e1 : (fun (d : D) (_ : Ro) => match d with
      | .bl b => (fun (x : D) (ρ' : Ro) => match x with | .bl k => Q k ρ' | _ => False) (.bl b) ρ
      | .int i => (fun (x : D) (ρ' : Ro) => match x with | .bl k => Q k ρ' | _ => False) (.int i) ρ
      | .str z => (fun (x : D) (ρ' : Ro) => match x with | .bl k => Q k ρ' | _ => False) (.str z) ρ
      | .non => (fun (x : D) (ρ' : Ro) => match x with | .bl k => Q k ρ' | _ => False) .non ρ
      | _ => False) = fun (x : D) (_ : Ro) => match x with | .bl k => Q k ρ | _ => False := by
    funext d ρ'
    cases d <;> rfl
  have hT : T (frzAll ρ) fun (x : D) (_ : Ro) => match x with | .bl k => Q k ρ | _ => False := by
    rw [← e1]; exact hT
  exact h.snd G (shutF ρ F H) H σ (frzAll ρ) (fun b _ => Q b ρ) _ S.shut.2 hT fun b F2 H2 ρ2 u2 S2 q2 => k b F H2 ρ (.refl _ _) (S.unshut u2 S2) q2⟩
/-! ### a, b = x, y where a tuple is made and unpacked (names that are cells), own lists among them -/
theorem CellOk.more {K : PySem.W.Frag} {G F H : Hp} {ρ : Ro} {v : V} {c : Cell} {p : Addr} {o : HO} (h : CellOk K G F H ρ v c) (hp : H p = none) : CellOk K G F (upd H p o) ρ v c := by
  cases c with
  | val d => exact h
  | own q xs =>
    obtain ⟨h1, h2, h3, h4, us, h5, h6⟩ := h
    exact ⟨h1, h2, h3, h4, us, by rw [upd_ne (ne_of_none h5 hp)]; exact h5, h6⟩
section
variable {X : Cx} {T : TCs} {pos : Pos}
theorem pps_asgC {i j : Nat} {x y : Str} {a b : Expr} {ta : TA} {px py pt : Pos} {kt k2 pt2} (hc : X.calm = true) (hN : X.N.Nodup) (ha : PPCs X [a, b] ta T) (hi : X.N[i]? = some x := by rfl) (hj : X.N[j]? = some y := by rfl)
    (hx : Loc X.env.scope x := by first | exact Or.inl rfl | exact Or.inr rfl) (hy : Loc X.env.scope y := by first | exact Or.inl rfl | exact Or.inr rfl)
    (hfx : X.fn x = true ∨ X.env.scope.names.lookup x = some .local := by first | exact .inl rfl | exact .inr rfl | assumption) (hfy : X.fn y = true ∨ X.env.scope.names.lookup y = some .local := by first | exact .inl rfl | exact .inr rfl | assumption)
    (hs : swapsWithSole [.Tuple [.Name x px, .Name y py] kt pt] (.Tuple [a, b] k2 pt2) pos.line X.env = pure false := by rfl) (hw : swappedStores [.Tuple [.Name x px, .Name y py] kt pt] (.Tuple [a, b] k2 pt2) X.env = pure none := by rfl)
    (h1 : (assignEach [.Tuple [.Name x px, .Name y py] kt pt] X.env).map (·.2) = [assign (.Tuple [.Name x px, .Name y py] kt pt) X.env] := by rfl)
    (g1 : (assignEach [.Name x px, .Name y py] X.env).map (·.2) = assign (.Name x px) X.env :: (assignEach [.Name y py] X.env).map (·.2) := by rfl) (g2 : (assignEach [.Name y py] X.env).map (·.2) = assign (.Name y py) X.env :: (assignEach [] X.env).map (·.2) := by rfl)
    (hn : (assignEach [.Name x px, .Name y py] X.env).length = 2 := by rfl) (hst : (assignEach [.Name x px, .Name y py] X.env).findIdx? (·.1) = none := by rfl) :
    PPS X (.Assign [.Tuple [.Name x px, .Name y py] kt pt] (.Tuple [a, b] k2 pt2) pos) (tAsg (tTup ta) (gTup X.K 2 (gCons (gName i) (gCons (gName j) gNil)))) (pParC i j T) :=
  ⟨ps_asg (pe_tup ha.pa) (pg_tup hc (pgs_cons (pg_name hN hi hx hfx) (pgs_cons (pg_name hN hj hy hfy) pgs_nil g2) g1) hn hst) hs hw h1, fun G F H σ ρ P D S hT r =>
  ha.snd G F H σ ρ _ _ S hT fun vs cs F' H' ρ' u S' o q => by
    match vs, cs, o, q with
    | [v1, v2], [c1, c2], o, q =>
      refine ⟨by show (2 : Nat) ≤ sizeLine; decide, fun p hp => ⟨p, [v1, v2], rfl, SqT.of upd_same, rfl, v1, [v2], rfl, v2, [], rfl, rfl, ?_⟩⟩
      have S1 := S'.more (o := .tup [v1, v2]) hp
      refine r.nx F' _ _ _ u ((S1.put i (o.1.more hp)).put j ((o.2.1.1.more hp).put fun p xs e w ys e2 => ?_)) q
      subst e2
      exact o.2.2 p xs e w ys (by simp)
    | [], [], _, q => exact q.elim
    | [_], [_], _, q => exact q.elim
    | _ :: _ :: _ :: _, _ :: _ :: _ :: _, _, q => exact q.elim⟩
end
/-! ### range of three -/
def stepD (i c : Int) (n : Nat) : List D := (List.range n).map fun (j : Nat) => .int (i + (j : Int) * c)
section
variable {X : Cx} {pos : Pos}
def jRng3 (T : TAp) : TAp := fun ρ Q => T ρ fun ds ρ1 => match ds with | [.int i, .int j, .int c] => ∃ n, RgC i j c n ∧ Q (stepD i c n) ρ1 | _ => False
theorem itrep_rngc {K : PySem.W.Frag} {F : Hp} (i c : Int) (n : Nat) : ItRep K (Itc i c n) F (stepD i c n) := fun F' H e1 e2 => by
  refine ⟨fun k d hd => ?_, by show n ≤ (stepD i c n).length; simp [stepD]⟩
  unfold stepD at hd
  have hk : k < n := by have := lt_of_get hd; simpa using this
  rw [List.getElem?_map, List.getElem?_range hk] at hd
  have hd : D.int (i + (k : Int) * c) = d := Option.some.inj hd
  refine ⟨hk, fun x H' y => ?_⟩
  obtain ⟨rfl, rfl⟩ := y
  rw [← hd]
  exact ⟨F', .old (.int _)⟩
theorem ppi_range3 {tg a b c : Expr} {ta : TA} {TA' : TAp} {p : Pos} (hg : Gl X "range") (hm : X.mg "range" = none) (ha : PPA X [a, b, c] ta TA')
    (hs : starEach [a, b, c] X.env = (false, eval a X.env) :: starEach [b, c] X.env := by rfl) (hpl : (backTo pos (starEach [b, c] X.env)).any (·.1) = false := by rfl) :
    PPI X tg (.Call (.Name "range" p) [a, b, c] [] pos) (iRng3 ta) (jRng3 TA') := ⟨pi_range3 hg hm ha.pa hs hpl, fun G F H σ ρ Q R S h k =>
  ha.snd G F H σ ρ _ _ S h fun vs ds F' H' ρ' u S' rv q => by
    match ds, rv, q with
    | [.int i, .int j, .int c], .cons r1 (.cons r2 (.cons r3 .nil)), q =>
      cases r1; cases r2; cases r3
      obtain ⟨n, hr, q⟩ := q
      exact ⟨i, j, c, n, rfl, hr, k _ _ F' H' ρ' u S' (itrep_rngc i c n) q⟩⟩
end
/-! ### str(number) -/
def fStrI : FC := fun ds Q => match ds with
  | [.int i] => i.natAbs.log2 < 1920 ∧ Q (.str (toString i))
  | _ => False
theorem cp_strI {K : PySem.W.Frag} : CallP K (fun xs H Q => ∃ i, xs = [.int i] ∧ i.natAbs.log2 < 1920 ∧ Q (.str (toString i)) H) fStrI := fun F H xs ds Q R hs r hf k => by
  match ds, r, hf with
  | [.int i], .cons r1 .nil, hf =>
    cases r1
    exact ⟨i, rfl, hf.1, k _ _ F H (.old (.str _)) hf.2⟩
/-! ### is True, is not False -/
section
variable {X : Cx}
def fIsB : F2 := fun x y Q => match x, y with
  | .bl a, .bl b => Q (.bl (decide (a = b)))
  | _, _ => False
def fNotB : F2 := fun x y Q => match x, y with
  | .bl a, .bl b => Q (.bl (!decide (a = b)))
  | _, _ => False
theorem cm_isB : Cmp X .Is rIsB fIsB := ⟨op_isBl, fun F H x y dx dy Q R hs rx ry hf k => by
  cases rx with
  | bl a =>
    cases ry with
    | bl b => exact ⟨a, b, rfl, rfl, k _ _ _ _ (.old (.bl _)) hf⟩
    | _ => exact hf.elim
  | _ => exact hf.elim⟩
theorem cm_notB : Cmp X .IsNot rNotB fNotB := ⟨op_notBl, fun F H x y dx dy Q R hs rx ry hf k => by
  cases rx with
  | bl a =>
    cases ry with
    | bl b => exact ⟨a, b, rfl, rfl, k _ _ _ _ (.old (.bl _)) hf⟩
    | _ => exact hf.elim
  | _ => exact hf.elim⟩
end
/-- for j in range(a, b): what holds ahead of turn j -/
theorem fr_rgA {g : TGp} {tb : TSp} {P : PEnds} {ρ : Ro} {m : Nat} (a n : Nat) (I : Nat → Ro → Prop) (e : m + a = n) (h0 : I a ρ) (hs : ∀ (j : Nat) (ρ : Ro) (K : Ro → Prop), j < n → I j ρ → (∀ ρ', I (j + 1) ρ' → K ρ') → g (.int (j : Int)) ρ fun ρ1 => tb { P with nx := K, ct := K, bk := P.nx } ρ1) (he : ∀ ρ, I n ρ → P.nx ρ) : forW g tb P (rangeD (a : Int) m) ρ := by
  rw [rangeD_nat']
  exact forW_rg I n hs he m a ρ e h0
end Pl
namespace Pl
open PySem PySem.Spec PyProof.Rows L2
abbrev N_is_number : List Str := [("thing" : Str)]
def T_is_number : TSp :=
  (pRet (pVal (pAndV (pIsi D.isInt (pVar 0)) (pNotV (pIsi D.isBl (pVar 0))))))
abbrev N_given : List Str := [("dune" : Str), ("wind" : Str), ("post" : Str), ("source" : Str), ("word" : Str), ("slope" : Str), ("climb" : Str)]
def T_given : TSp :=
  (pSeq (pAsg (pVar 1) (hTup 2 (hCons (hName 4) (hCons (hName 5) hNil))))
    (pSeq (pSet 6 (pVal (pOp fMulI (pVar 5) (pCB fAbs (pCons (pOp fSub (pVar 2) (pVar 3)) pNil)))))
    (pRet (pVal (pIf (pTest (pOp fEq (pVar 4) (pC (.str "cut")))) (pOp fAdd (pIxO 0 (pVar 3)) (pVar 6)) (pOp fSub (pIxO 0 (pVar 3)) (pVar 6)))))))
abbrev N_first_source : List Str := [("dune" : Str), ("wind" : Str), ("post" : Str), ("height" : Str), ("source" : Str)]
def T_first_source (g_given : FA) : TSp :=
  (pRet (pVal (pIndex (pLc (jRng1 (pCons (pLenO 0) pNil)) (hName 4) pYes (pFrz (pCallA 4 g_given (pCons (pVar 0) (pCons (pVar 1) (pCons (pVar 2) (pCons (pVar 4) pNil)))))) [4]) (pVar 3))))
abbrev N_sources : List Str := [("dune" : Str), ("wind" : Str), ("post" : Str), ("height" : Str)]
def T_sources (g_blown : FA) (g_first_source : FA) : TSp :=
  (pRet (pVal (pCB fTup (pCons (pLc (jE (pCons (pFrz (pCallA 2 g_blown (pCons (pVar 0) (pCons (pVar 1) pNil)))) pNil)) (hTup 2 (hCons (hName 2) (hCons (hName 3) hNil))) pYes (pFrz (pCallA 4 g_first_source (pCons (pVar 0) (pCons (pVar 1) (pCons (pVar 2) (pCons (pVar 3) pNil)))))) [2, 3]) pNil))))
abbrev N_is_post_row : List Str := [("many" : Str), ("thing" : Str), ("post" : Str)]
def T_is_post_row (g_is_number : FA) : TSp :=
  (pSeq (pIfS (pOr (pNot (pTest (pIsi D.isTup (pVar 1)))) (pTest (pOp fNe (pLenO 1) (pVar 0))))
    (pRet (pVal (pC (.bl false))))
    pNext)
    (pRet (pVal (pCB fAll (pCons (pLc (jSeq (pVar 1)) (hName 2) pYes (pAndV (pFrz (pCallA 1 g_is_number (pCons (pVar 2) pNil))) (pChain fLe fLt (pC (.int 0)) (pVar 2) (pVar 0))) [2]) pNil)))))
abbrev N_played : List Str := [("dune" : Str), ("wind" : Str), ("posts" : Str), ("post" : Str), ("source" : Str)]
def T_played (g_given : FA) : TSp :=
  (pRet (pVal (pCB fTup (pCons (pLc (jE (pCons (pVar 2) pNil)) (hTup 2 (hCons (hName 3) (hCons (hName 4) hNil))) pYes (pFrz (pCallA 4 g_given (pCons (pVar 0) (pCons (pVar 1) (pCons (pVar 3) (pCons (pVar 4) pNil)))))) [3, 4]) pNil))))
abbrev N_held : List Str := [("dune" : Str), ("almanac" : Str), ("word" : Str), ("play" : Str), ("now" : Str), ("wind" : Str), ("posts" : Str)]
def T_held (g_blown : FA) (g_played : FA) : TSp :=
  (pSeq (pSet 4 (pVal (pCB fTup (pCons (pVar 0) pNil))))
    (pSeq (pFor (jZ2 (pCons (pVar 1) (pCons (pVar 3) pNil))) (hTup 2 (hCons (hName 5) (hCons (hName 6) hNil)))
    (pSet 4 (pVal (pIf (pTest (pOp fEq (pIxO 5 (pC (.int 0))) (pVar 2))) (pFrz (pCallA 3 g_played (pCons (pVar 4) (pCons (pVar 5) (pCons (pVar 6) pNil))))) (pFrz (pCallA 2 g_blown (pCons (pVar 4) (pCons (pVar 5) pNil))))))))
    (pRet (pMove 4))))
abbrev N_best_play : List Str := [("dune" : Str), ("almanac" : Str), ("word" : Str), ("rows" : Str), ("number" : Str), ("wind" : Str)]
def T_best_play (g_sources : FA) (g_days : FA) : TSp :=
  (pSeq (pSet 3 (pCallA 2 g_days (pCons (pVar 0) (pCons (pVar 1) pNil))))
    (pRet (pLcO (jE (pCons (pVar 1) pNil)) (hTup 2 (hCons (hName 4) (hCons (hName 5) hNil))) pYes (pIf (pTest (pOp fEq (pIxO 5 (pC (.int 0))) (pVar 2))) (pFrz (pCallA 2 g_sources (pCons (pIxO 3 (pVar 4)) (pCons (pVar 5) pNil)))) (pTup pNil)) [4, 5])))
abbrev N_is_move : List Str := [("many" : Str), ("is_own" : Str), ("thing" : Str)]
def T_is_move (g_is_post_row : FA) : TSp :=
  (pRet (pCallA 2 g_is_post_row (pCons (pIf (pTest (pVar 1)) (pVar 0) (pC (.int 0))) (pCons (pVar 2) pNil))))
abbrev N_is_play : List Str := [("dune" : Str), ("almanac" : Str), ("word" : Str), ("thing" : Str), ("wind" : Str), ("move" : Str)]
def T_is_play (g_is_move : FA) : TSp :=
  (pSeq (pIfS (pOr (pNot (pTest (pIsi D.isLst (pVar 3)))) (pTest (pOp fNe (pLenO 3) (pLenO 1))))
    (pRet (pVal (pC (.bl false))))
    pNext)
    (pRet (pVal (pCB fAll (pCons (pLc (jZ2 (pCons (pVar 1) (pCons (pVar 3) pNil))) (hTup 2 (hCons (hName 4) (hCons (hName 5) hNil))) pYes (pFrz (pCallA 3 g_is_move (pCons (pLenO 0) (pCons (pOp fEq (pIxO 4 (pC (.int 0))) (pVar 2)) (pCons (pVar 5) pNil))))) [4, 5]) pNil)))))
abbrev N_is_post : List Str := [("dune" : Str), ("post" : Str)]
def T_is_post (g_is_number : FA) : TSp :=
  (pRet (pVal (pAndV (pFrz (pCallA 1 g_is_number (pCons (pVar 1) pNil))) (pChain fLe fLt (pC (.int 0)) (pVar 1) (pLenO 0)))))
abbrev N_shows_most : List Str := [("dune" : Str), ("almanac" : Str), ("post" : Str), ("height" : Str), ("thing" : Str)]
def T_shows_most (g_held : FA) (g_is_play : FA) (g_is_post : FA) : TSp :=
  (pSeq (pIfS (pOr (pNot (pTest (pFrz (pCallA 2 g_is_post (pCons (pVar 0) (pCons (pVar 2) pNil)))))) (pNot (pTest (pFrz (pCallA 4 g_is_play (pCons (pVar 0) (pCons (pVar 1) (pCons (pC (.str "cut")) (pCons (pVar 4) pNil)))))))))
    (pRet (pVal (pC (.bl false))))
    pNext)
    (pRet (pVal (pOp fLe (pOp fIx (pFrz (pCallA 4 g_held (pCons (pVar 0) (pCons (pVar 1) (pCons (pC (.str "cut")) (pCons (pVar 4) pNil)))))) (pVar 2)) (pVar 3)))))
abbrev N_shows_least : List Str := [("dune" : Str), ("almanac" : Str), ("post" : Str), ("height" : Str), ("thing" : Str)]
def T_shows_least (g_held : FA) (g_is_play : FA) (g_is_post : FA) : TSp :=
  (pSeq (pIfS (pOr (pNot (pTest (pFrz (pCallA 2 g_is_post (pCons (pVar 0) (pCons (pVar 2) pNil)))))) (pNot (pTest (pFrz (pCallA 4 g_is_play (pCons (pVar 0) (pCons (pVar 1) (pCons (pC (.str "fill")) (pCons (pVar 4) pNil)))))))))
    (pRet (pVal (pC (.bl false))))
    pNext)
    (pRet (pVal (pOp fGe (pOp fIx (pFrz (pCallA 4 g_held (pCons (pVar 0) (pCons (pVar 1) (pCons (pC (.str "fill")) (pCons (pVar 4) pNil)))))) (pVar 2)) (pVar 3)))))
abbrev N__law_sources : List Str := [("_law_hill" : Str), ("_law_gust" : Str), ("_law_sign" : Str), ("_law_slope_here" : Str), ("_law_found" : Str), ("_law_i" : Str), ("_law_level" : Str), ("_law_j" : Str), ("_law_reached" : Str)]
def T__law_sources (g__law_blown : FA) : TSp :=
  (pSeq (pAsg (pVar 1) (hTup 2 (hCons (hName 2) (hCons (hName 3) hNil))))
    (pSeq (pSet 4 (pLstO pNil))
    (pSeq (pFor (jE (pCons (pFrz (pCallA 2 g__law_blown (pCons (pVar 0) (pCons (pVar 1) pNil)))) pNil)) (hTup 2 (hCons (hName 5) (hCons (hName 6) hNil)))
    (pSeq (pSet 8 (pVal (pLc (jRng1 (pCons (pLenO 0) pNil)) (hName 7) pYes (pOp fAdd (pIxO 0 (pVar 7)) (pOp fMulI (pOp fMulI (pVar 3) (pCB fAbs (pCons (pOp fSub (pVar 5) (pVar 7)) pNil))) (pIf (pTest (pOp fEq (pVar 2) (pC (.str "cut")))) (pC (.int 1)) (pUn fNeg (pC (.int 1)))))) [7])))
    (pAppend 4 (pIndex (pVar 8) (pVar 6)))))
    (pRet (pVal (pCB fTup (pCons (pVar 4) pNil)))))))
abbrev N__law_play : List Str := [("_law_box_here" : Str), ("_law_hill" : Str), ("_law_winds_here" : Str), ("_law_sign" : Str), ("_law_found" : Str), ("_law_here" : Str), ("_law_gust" : Str), ("_law_best" : Str), ("_law_at" : Str), ("_law_some" : Str)]
def T__law_play (g__law_take : FB) (g__law_of : FB) (g__law_blown : FA) (g__law_sources : FA) : TSp :=
  (pSeq (pParC 4 5 (pConsC (pLstO pNil) (pConsC (pVal (pVar 1)) pNilC)))
    (pSeq (pFor (jSeq (pVar 2)) (hName 6)
    (pSeq (pIfS (pTest (pOp fEq (pIxO 6 (pC (.int 0))) (pVar 3)))
    (pSeq (pSet 7 (pCallA 2 g__law_sources (pCons (pVar 5) (pCons (pVar 6) pNil))))
    (pSeq (pSet 9 (pVal (pLc (jRng1 (pCons (pLenO 1) pNil)) (hName 8) pYes (pFrz (pCallB 0 2 g__law_of (pCons (pLst (pCons (pVar 8) (pCons (pIxO 7 (pVar 8)) (pCons (pIxO 7 (pVar 8)) (pCons (pFrz (pCallB 0 2 g__law_take (pCons (pLenO 1) pNil))) pNil))))) pNil))) [8])))
    (pAppend 4 (pCB fTup (pCons (pVar 9) pNil)))))
    (pAppend 4 (pTup pNil)))
    (pSet 5 (pCallA 2 g__law_blown (pCons (pVar 5) (pCons (pVar 6) pNil))))))
    (pRet (pMove 4))))
abbrev N_contrary : List Str := [("wind" : Str), ("word" : Str), ("slope" : Str)]
def T_contrary : TSp :=
  (pSeq (pAsg (pVar 0) (hTup 2 (hCons (hName 1) (hCons (hName 2) hNil))))
    (pRet (pVal (pTup (pCons (pIf (pTest (pOp fEq (pVar 1) (pC (.str "cut")))) (pC (.str "fill")) (pC (.str "cut"))) (pCons (pVar 2) pNil))))))
abbrev N_gentler_ones : List Str := [("almanac" : Str), ("kept" : Str), ("word" : Str), ("slope" : Str)]
def T_gentler_ones : TSp :=
  (pSeq (pSet 1 (pLstO pNil))
    (pSeq (pFor (jSeq (pVar 0)) (hTup 2 (hCons (hName 2) (hCons (hName 3) hNil)))
    (pIfS (pOr (pTest (pPeek (pOp fEq (pVar 1) (pLst pNil)))) (pTest (pOp fLt (pVar 3) (pOp fIx (pIxO 1 (pUn fNeg (pC (.int 1)))) (pC (.int 1))))))
    (pAppend 1 (pTup (pCons (pVar 2) (pCons (pVar 3) pNil))))
    pNext))
    (pRet (pMove 1))))
abbrev N_core : List Str := [("almanac" : Str), ("kept" : Str), ("wind" : Str)]
def T_core (g_gentler_ones : FA) : TSp :=
  (pSeq (pSet 1 (pLstO pNil))
    (pSeq (pFor (jSeq (pFrz (pCallA 1 g_gentler_ones (pCons (pVar 0) pNil)))) (hName 2)
    (pSeq (pIfS (pAnd (pTest (pPeek (pOp fNe (pVar 1) (pLst pNil)))) (pTest (pOp fEq (pOp fIx (pIxO 1 (pUn fNeg (pC (.int 1)))) (pC (.int 0))) (pIxO 2 (pC (.int 0))))))
    (pDrop (pPop0 1))
    pNext)
    (pAppend 1 (pVar 2))))
    (pRet (pMove 1))))
abbrev N_alike : List Str := [("one" : Str), ("other" : Str)]
def T_alike (g_core : FA) : TSp :=
  (pRet (pVal (pOp fEq (pFrz (pCallA 1 g_core (pCons (pVar 0) pNil))) (pFrz (pCallA 1 g_core (pCons (pVar 1) pNil))))))
abbrev N_first_to_shift : List Str := [("almanac" : Str), ("slope" : Str), ("word" : Str), ("other" : Str)]
def T_first_to_shift : TSp :=
  (pSeq (pFor (jSeq (pVar 0)) (hTup 2 (hCons (hName 2) (hCons (hName 3) hNil)))
    (pIfS (pTest (pOp fLe (pVar 3) (pVar 1)))
    (pRet (pMove 2))
    pNext))
    (pRet (pVal (pC .non))))
abbrev N_parting : List Str := [("one" : Str), ("other" : Str), ("word" : Str), ("slope" : Str), ("slopes" : Str), ("least" : Str)]
def T_parting (g_first_to_shift : FA) : TSp :=
  (pSeq (pSet 4 (pVal (pLc (jSeq (pLst (pStar (pVar 0) (pStar (pVar 1) pNil)))) (hTup 2 (hCons (hName 2) (hCons (hName 3) hNil))) pYes (pVar 3) [2, 3])))
    (pSeq (pSet 5 (pVal (pDflt min (pLc (jSeq (pVar 4)) (hName 3) (pTest (pOp fNe (pFrz (pCallA 2 g_first_to_shift (pCons (pVar 0) (pCons (pVar 3) pNil)))) (pFrz (pCallA 2 g_first_to_shift (pCons (pVar 1) (pCons (pVar 3) pNil)))))) (pVar 3) [3]) (pC .non))))
    (pRet (pVal (pIf (pTest (pOp fIsN (pVar 5) (pC .non))) (pC .non) (pOp fAdd (pVar 5) (pC (.int 1))))))))
abbrev N__law_near : List Str := [("_law_box_here" : Str), ("_law_winds_here" : Str), ("_law_told" : Str), ("_law_way" : Str), ("_law_at" : Str), ("_law_word" : Str), ("_law_slope_here" : Str)]
def T__law_near (g__law_take : FB) (g__law_slope : FB) : TSp :=
  (pSeq (pPar 2 3 (pCons (pCB fLst (pCons (pVar 1) pNil)) (pCons (pFrz (pCallB 0 2 g__law_take (pCons (pC (.int 7)) pNil))) pNil)))
    (pSeq (pSet 4 (pCallB 0 2 g__law_take (pCons (pOp fAdd (pLenO 2) (pC (.int 1))) pNil)))
    (pSeq (pIfS (pOr (pTest (pOp fEq (pVar 3) (pC (.int 0)))) (pTest (pOp fEq (pVar 4) (pLenO 2))))
    (pRet (pVal (pOp fAdd (pOp fAdd (pSl (pVar 2) pNoPart (pPart (pVar 4))) (pLst (pCons (pTup (pCons (pOp fIx (pLst (pCons (pC (.str "cut")) (pCons (pC (.str "fill")) pNil))) (pFrz (pCallB 0 2 g__law_take (pCons (pC (.int 2)) pNil)))) (pCons (pFrz (pCallB 0 1 g__law_slope pNil)) pNil))) pNil))) (pSl (pVar 2) (pPart (pVar 4)) pNoPart))))
    pNext)
    (pSeq (pAsg (pIxO 2 (pVar 4)) (hTup 2 (hCons (hName 5) (hCons (hName 6) hNil))))
    (pSeq (pIfS (pTest (pOp fEq (pVar 3) (pC (.int 1))))
    (pRet (pVal (pOp fAdd (pSl (pVar 2) pNoPart (pPart (pVar 4))) (pSl (pVar 2) (pPart (pOp fAdd (pVar 4) (pC (.int 1)))) pNoPart))))
    pNext)
    (pSeq (pIfS (pTest (pOp fEq (pVar 3) (pC (.int 2))))
    (pRet (pVal (pOp fAdd (pOp fAdd (pSl (pVar 2) pNoPart (pPart (pVar 4))) (pLst (pCons (pIxO 2 (pVar 4)) pNil))) (pSl (pVar 2) (pPart (pVar 4)) pNoPart))))
    pNext)
    (pSeq (pIfS (pTest (pOp fEq (pVar 3) (pC (.int 3))))
    (pRet (pVal (pOp fAdd (pOp fAdd (pSl (pVar 2) pNoPart (pPart (pVar 4))) (pUn fRev (pSl (pVar 2) (pPart (pVar 4)) (pPart (pOp fAdd (pVar 4) (pC (.int 2))))))) (pSl (pVar 2) (pPart (pOp fAdd (pVar 4) (pC (.int 2)))) pNoPart))))
    pNext)
    (pSeq (pIfS (pTest (pOp fEq (pVar 3) (pC (.int 4))))
    (pSet 5 (pVal (pOp fIx (pLst (pCons (pC (.str "fill")) (pCons (pC (.str "cut")) pNil))) (pCB fInt1 (pCons (pOp fEq (pVar 5) (pC (.str "fill"))) pNil)))))
    pNext)
    (pRet (pVal (pOp fAdd (pOp fAdd (pSl (pVar 2) pNoPart (pPart (pVar 4))) (pLst (pCons (pTup (pCons (pVar 5) (pCons (pCB fMax2 (pCons (pC (.int 0)) (pCons (pOp fAdd (pVar 6) (pOp fIx (pLst (pCons (pC (.int 0)) (pCons (pC (.int 0)) (pCons (pC (.int 0)) (pCons (pC (.int 0)) (pCons (pC (.int 0)) (pCons (pC (.int 1)) (pCons (pUn fNeg (pC (.int 1))) pNil)))))))) (pVar 3))) pNil))) pNil))) pNil))) (pSl (pVar 2) (pPart (pOp fAdd (pVar 4) (pC (.int 1)))) pNoPart))))))))))))
abbrev N__law_core : List Str := [("_law_winds" : Str), ("_law_left" : Str), ("_law_least" : Str), ("_law_word" : Str), ("_law_slope_here" : Str), ("_law_k" : Str), ("_law_wind" : Str)]
def T__law_core : TSp :=
  (pSeq (pParC 1 2 (pConsC (pLstO pNil) (pConsC (pVal (pC .non)) pNilC)))
    (pSeq (pFor (jSeq (pVar 0)) (hTup 2 (hCons (hName 3) (hCons (hName 4) hNil)))
    (pIfS (pOr (pTest (pOp fIsN (pVar 2) (pC .non))) (pTest (pOp fLt (pVar 4) (pVar 2))))
    (pSeq (pAppend 1 (pTup (pCons (pVar 3) (pCons (pVar 4) pNil))))
    (pSet 2 (pVal (pVar 4))))
    pNext))
    (pRet (pLcO (jE (pCons (pVar 1) pNil)) (hTup 2 (hCons (hName 5) (hCons (hName 6) hNil))) (pOr (pTest (pOp fEq (pOp fAdd (pVar 5) (pC (.int 1))) (pLenO 1))) (pTest (pOp fNe (pOp fIx (pIxO 1 (pOp fAdd (pVar 5) (pC (.int 1)))) (pC (.int 0))) (pIxO 6 (pC (.int 0)))))) (pVar 6) [5, 6]))))
abbrev N__law_step : List Str := [("_law_winds" : Str), ("_law_high" : Str)]
def T__law_step (g__law_behind : FA) : TSp :=
  (pRet (pCallA 2 g__law_behind (pCons (pTup (pCons (pC (.int 0)) (pCons (pVar 1) pNil))) (pCons (pVar 0) pNil))))
abbrev N_shows_parting : List Str := [("one" : Str), ("other" : Str), ("thing" : Str)]
def T_shows_parting (g_is_number : FA) (g_behind : FA) : TSp :=
  (pSeq (pIfS (pOr (pNot (pTest (pFrz (pCallA 1 g_is_number (pCons (pVar 2) pNil))))) (pTest (pOp fLt (pVar 2) (pC (.int 1)))))
    (pRet (pVal (pC (.bl false))))
    pNext)
    (pRet (pVal (pOp fNe (pFrz (pCallA 2 g_behind (pCons (pTup (pCons (pC (.int 0)) (pCons (pVar 2) pNil))) (pCons (pVar 0) pNil)))) (pFrz (pCallA 2 g_behind (pCons (pTup (pCons (pC (.int 0)) (pCons (pVar 2) pNil))) (pCons (pVar 1) pNil))))))))
abbrev N__law_lists : List Str := [("_law_thing" : Str), ("_law_one" : Str)]
def T__law_lists (g__law_lists : FA) : TSp :=
  (pRet (pVal (pIf (pTest (pIsi2 D.isLst D.isTup (pVar 0))) (pLc (jSeq (pVar 0)) (hName 1) pYes (pFrz (pCallA 1 g__law_lists (pCons (pVar 1) pNil))) [1]) (pVar 0))))
abbrev N_own_copy : List Str := [("thing" : Str), ("part" : Str)]
def T_own_copy (g_own_copy : FA) : TSp :=
  (pSeq (pIfS (pTest (pIsi D.isLst (pVar 0)))
    (pRet (pLcO (jSeq (pVar 0)) (hName 1) pYes (pFrz (pCallA 1 g_own_copy (pCons (pVar 1) pNil))) [1]))
    pNext)
    (pSeq (pIfS (pTest (pIsi D.isTup (pVar 0)))
    (pRet (pVal (pCB fTup (pCons (pLc (jSeq (pVar 0)) (hName 1) pYes (pFrz (pCallA 1 g_own_copy (pCons (pVar 1) pNil))) [1]) pNil))))
    pNext)
    (pRet (pMove 0))))
abbrev N_cuts_ahead : List Str := [("order" : Str), ("at" : Str), ("sign" : Str)]
def T_cuts_ahead : TSp :=
  (pRet (pLcO (jES (pCons (pVar 0) pNil)) (hTup 2 (hCons (hName 1) (hCons (hName 2) hNil))) (pTest (pOp fEq (pVar 2) (pC (.str "f")))) (pCount (pSlS (pVar 0) pNoPart (pPart (pVar 1))) (pC (.str "c"))) [1, 2]))
abbrev N_has_word : List Str := [("ahead" : Str), ("word" : Str), ("first" : Str), ("cut" : Str), ("fill" : Str)]
def T_has_word : TSp :=
  (pSeq (pAsg (pVar 1) (hTup 3 (hCons (hName 2) (hCons (hName 3) (hCons (hName 4) hNil)))))
    (pRet (pVal (pOp fEq (pOp fEq (pVar 2) (pC (.str "cut"))) (pOp fGt (pIxO 0 (pVar 4)) (pVar 3))))))
abbrev N_order_at : List Str := [("cuts" : Str), ("fills" : Str), ("words" : Str), ("number" : Str), ("ways" : Str), ("signs" : Str), ("cut" : Str), ("fill" : Str), ("left" : Str), ("by_cut" : Str)]
def T_order_at (g_ways_on : FA) : TSp :=
  (pSeq (pSet 4 (pCallA 3 g_ways_on (pCons (pVar 0) (pCons (pVar 1) (pCons (pVar 2) pNil)))))
    (pSeq (pIfS (pNot (pTest (pChain fLe fLt (pC (.int 0)) (pVar 3) (pOp fIx (pIxO 4 (pC (.int 0))) (pC (.int 0))))))
    pNever
    pNext)
    (pSeq (pSet 5 (pLstO pNil))
    (pSeq (pSet 6 (pVal (pC (.int 0))))
    (pSeq (pSet 7 (pVal (pC (.int 0))))
    (pSeq (pSet 8 (pVal (pVar 3)))
    (pSeq (pWhile (pOr (pTest (pOp fLt (pVar 6) (pLenO 0))) (pTest (pOp fLt (pVar 7) (pLenO 1))))
    (pSeq (pSet 9 (pVal (pOp fIx (pIxO 4 (pVar 7)) (pOp fAdd (pVar 6) (pC (.int 1))))))
    (pIfS (pTest (pOp fLt (pVar 8) (pVar 9)))
    (pSeq (pAppend 5 (pC (.str "c")))
    (pAugI 6 (fun i j => i + j) (pC (.int 1))))
    (pSeq (pAppend 5 (pC (.str "f")))
    (pSeq (pAugI 7 (fun i j => i + j) (pC (.int 1)))
    (pAugI 8 (fun i j => i - j) (pVar 9)))))))
    (pRet (pVal (pJoin (pC (.str "")) (pVar 5)))))))))))
abbrev N_number_of : List Str := [("cuts" : Str), ("fills" : Str), ("words" : Str), ("order" : Str), ("ways" : Str), ("ahead" : Str), ("place" : Str), ("word" : Str), ("fill" : Str), ("cut" : Str)]
def T_number_of (g_cuts_ahead : FA) (g_has_word : FA) (g_ways_on : FA) : TSp :=
  (pSeq (pSet 4 (pCallA 3 g_ways_on (pCons (pVar 0) (pCons (pVar 1) (pCons (pVar 2) pNil)))))
    (pSeq (pSet 5 (pCallA 1 g_cuts_ahead (pCons (pVar 3) pNil)))
    (pSeq (pFor (jE (pCons (pVar 2) pNil)) (hTup 2 (hCons (hName 6) (hCons (hName 7) hNil)))
    (pIfS (pNot (pTest (pFrz (pCallA 2 g_has_word (pCons (pVar 5) (pCons (pVar 7) pNil))))))
    pNever
    pNext))
    (pRet (pVal (pCB fSumA (pCons (pLc (jE (pCons (pVar 5) pNil)) (hTup 2 (hCons (hName 8) (hCons (hName 9) hNil))) pYes (pOp fIx (pIxO 4 (pVar 8)) (pOp fAdd (pVar 9) (pC (.int 1)))) [8, 9]) pNil)))))))
abbrev N__law_orders : List Str := [("_law_cuts" : Str), ("_law_fills" : Str), ("_law_text" : Str)]
def T__law_orders (g__law_orders : FA) : TSp :=
  (pSeq (pIfS (pOr (pTest (pOp fEq (pVar 0) (pC (.int 0)))) (pTest (pOp fEq (pVar 1) (pC (.int 0)))))
    (pRet (pLstO (pCons (pOp fAdd (pOp fMulS (pC (.str "c")) (pVar 0)) (pOp fMulS (pC (.str "f")) (pVar 1))) pNil)))
    pNext)
    (pRet (pCatO (pLc (jSeq (pFrz (pCallA 2 g__law_orders (pCons (pOp fSub (pVar 0) (pC (.int 1))) (pCons (pVar 1) pNil))))) (hName 2) pYes (pOp fAdd (pC (.str "c")) (pVar 2)) [2]) (pLc (jSeq (pFrz (pCallA 2 g__law_orders (pCons (pVar 0) (pCons (pOp fSub (pVar 1) (pC (.int 1))) pNil))))) (hName 2) pYes (pOp fAdd (pC (.str "f")) (pVar 2)) [2]))))
end Pl
namespace Pl
open PySem PySem.Spec PyProof.Rows L2
/-! ### plays -/
/-- what post i gets of post j -/
def gv (c : Bool) (s : Int) (l : List Int) (i j : Int) : Int := if c = true then l.getD j.toNat 0 + s * aI (i - j) else l.getD j.toNat 0 - s * aI (i - j)
def gvL (c : Bool) (s : Int) (l : List Int) (k : Nat) : List Int → List Int
  | [] => []
  | j :: r => gv c s l k j :: gvL c s l (k + 1) r
theorem gvL_len (c : Bool) (s : Int) (l : List Int) : ∀ (m : List Int) (k : Nat), (gvL c s l k m).length = m.length
  | [], _ => rfl
  | _ :: m, k => by rw [gvL, List.length_cons, gvL_len c s l m, List.length_cons]
theorem gvL_get (c : Bool) (s : Int) (l : List Int) : ∀ (m : List Int) (k i : Nat), i < m.length → (gvL c s l k m).getD i 0 = gv c s l ((k + i : Nat) : Int) (m.getD i 0)
  | [], _, _, h => by simp at h
  | j :: m, k, 0, _ => rfl
  | j :: m, k, i + 1, h => by
    show (gvL c s l (k + 1) m).getD i 0 = gv c s l _ (m.getD i 0)
    rw [gvL_get c s l m (k + 1) i (by simpa using h), show k + 1 + i = k + (i + 1) by omega]
abbrev Mv := List Int
def okMv (n : Nat) (m : Mv) : Bool := decide (m.length = n) && m.all fun j => decide (0 ≤ j) && decide (j < n)
theorem okMv_iff {n : Nat} {m : Mv} : okMv n m = true ↔ m.length = n ∧ ∀ j ∈ m, 0 ≤ j ∧ j < n := by
  unfold okMv; simp
def okMove (c : Bool) (n : Nat) (w : Wd) (m : Mv) : Bool := okMv (if w.1 = c then n else 0) m
def okPl (c : Bool) (n : Nat) : List Wd → List Mv → Bool
  | [], [] => true
  | w :: ws, m :: ms => okMove c n w m && okPl c n ws ms
  | _, _ => false
theorem okPl_len {c : Bool} {n : Nat} : ∀ {ws : List Wd} {ms : List Mv}, okPl c n ws ms = true → ms.length = ws.length
  | [], [], _ => rfl
  | _ :: ws, _ :: ms, h => by
    rw [okPl, Bool.and_eq_true] at h
    rw [List.length_cons, List.length_cons, okPl_len h.2]
  | [], _ :: _, h => by simp [okPl] at h
  | _ :: _, [], h => by simp [okPl] at h
def heldStep (c : Bool) (l : List Int) (w : Wd) (m : Mv) : List Int := if w.1 = c then gvL w.1 w.2 l 0 m else blW l w
def heldL (c : Bool) : List Int → List Wd → List Mv → List Int
  | l, w :: ws, m :: ms => heldL c (heldStep c l w m) ws ms
  | l, _, _ => l
theorem heldStep_len {c : Bool} {l : List Int} {w : Wd} {m : Mv} (h : okMove c l.length w m = true) : (heldStep c l w m).length = l.length := by
  unfold heldStep
  by_cases e : w.1 = c
  · rw [if_pos e, gvL_len]
    unfold okMove at h
    rw [if_pos e] at h
    exact (okMv_iff.mp h).1
  · rw [if_neg e]; exact blW_len l w
theorem heldL_len {c : Bool} : ∀ {ws : List Wd} {ms : List Mv} {l : List Int}, okPl c l.length ws ms = true → (heldL c l ws ms).length = l.length
  | [], [], _, _ => rfl
  | w :: ws, m :: ms, l, h => by
    rw [okPl, Bool.and_eq_true] at h
    have e := heldStep_len h.1
    show (heldL c (heldStep c l w m) ws ms).length = _
    rw [heldL_len (ws := ws) (ms := ms) (by rw [e]; exact h.2), e]
  | [], _ :: _, _, h => by simp [okPl] at h
  | _ :: _, [], _, h => by simp [okPl] at h
/-! the best play -/
def bestL (c : Bool) (l : List Int) : List Wd → List Mv
  | [] => []
  | w :: ws => (if w.1 = c then srcL w.1 w.2 l 0 (blW l w) else []) :: bestL c (blW l w) ws
theorem bestL_len (c : Bool) : ∀ (ws : List Wd) (l : List Int), (bestL c l ws).length = ws.length
  | [], _ => rfl
  | w :: ws, l => by rw [bestL, List.length_cons, bestL_len c ws, List.length_cons]
theorem blW_get_cut {l : List Int} {s : Int} (hs : 0 ≤ s) {i : Nat} (hi : i < l.length) : (blW l (true, s)).getD i 0 = minOf (reach s l i) := by
  show (cutTo s l).getD i 0 = _
  rw [cutTo_all hs, cutAll_get hi]
theorem fillAll_get {s : Int} {l : List Int} {i : Nat} (hi : i < l.length) : (fillAll s l).getD i 0 = maxOf (reachF s l i) := by
  unfold fillAll
  rw [List.getD_eq_getElem?_getD, List.getElem?_map, List.getElem?_range hi]; rfl
theorem blW_get_fill {l : List Int} {s : Int} (hs : 0 ≤ s) {i : Nat} (hi : i < l.length) : (blW l (false, s)).getD i 0 = maxOf (reachF s l i) := by
  show (fillTo s l).getD i 0 = _
  rw [fillTo_all hs, fillAll_get hi]
theorem srcL_get (c : Bool) (s : Int) (ns : List Int) : ∀ (l : List Int) (k i : Nat), i < l.length → (srcL c s ns k l).getD i 0 = (firstIx (l.getD i 0) (row c s ns ((k + i : Nat) : Int)) : Int)
  | [], _, _, h => by simp at h
  | x :: l, k, 0, _ => rfl
  | x :: l, k, i + 1, h => by
    show (srcL c s ns (k + 1) l).getD i 0 = _
    rw [srcL_get c s ns l (k + 1) i (by simpa using h), show k + 1 + i = k + (i + 1) by omega]; rfl
theorem getD_of {α : Type} {l : List α} {i : Nat} {d x : α} (h : l[i]? = some x) : l.getD i d = x := by rw [List.getD_eq_getElem?_getD, h]; rfl
theorem get_of {l : List Int} {i : Nat} (h : i < l.length) : l[i]? = some (l.getD i 0) := by
  rw [List.getD_eq_getElem?_getD, List.getElem?_eq_getElem h]; rfl
theorem ext_getD {a b : List Int} (h : a.length = b.length) (g : ∀ i, i < a.length → a.getD i 0 = b.getD i 0) : a = b := by
  apply List.ext_getElem?
  intro i
  by_cases q : i < a.length
  · rw [get_of q, get_of (by omega), g i q]
  · rw [List.getElem?_eq_none (by omega), List.getElem?_eq_none (by omega)]
theorem src_ok {c : Bool} {s : Int} (hs : 0 ≤ s) {l : List Int} (hne : l ≠ []) {i : Nat} (hi : i < l.length) : firstIx ((blownL c s l).getD i 0) (row c s l i) < l.length ∧ gv c s l i (firstIx ((blownL c s l).getD i 0) (row c s l i)) = (blownL c s l).getD i 0 := by
  have h1 : (blownL c s l)[i]? = some ((blownL c s l).getD i 0) := get_of (by rw [blownL_len]; exact hi)
  have hm := blown_in_row hs hne h1
  have h2 := firstIx_at hm
  have h3 : firstIx ((blownL c s l).getD i 0) (row c s l i) < l.length := by have := lt_of_get h2; rwa [row_len] at this
  rw [row_get h3] at h2
  refine ⟨h3, ?_⟩
  unfold gv
  rw [Int.toNat_natCast]
  exact Option.some.inj h2
theorem mem_getD {l : List Int} {x : Int} (h : x ∈ l) : ∃ i, i < l.length ∧ x = l.getD i 0 := by
  obtain ⟨i, hi, rfl⟩ := List.getElem_of_mem h
  exact ⟨i, hi, by rw [List.getD_eq_getElem?_getD, List.getElem?_eq_getElem hi]; rfl⟩
theorem src_okMv {c : Bool} {s : Int} (hs : 0 ≤ s) {l : List Int} (hne : l ≠ []) : okMv l.length (srcL c s l 0 (blownL c s l)) = true := by
  refine okMv_iff.mpr ⟨by rw [srcL_len, blownL_len], fun j hj => ?_⟩
  obtain ⟨i, hi, rfl⟩ := mem_getD hj
  rw [srcL_len, blownL_len] at hi
  rw [srcL_get _ _ _ _ _ _ (by rw [blownL_len]; exact hi), Nat.zero_add]
  have := (src_ok (c := c) hs hne hi).1
  omega
theorem src_gv {c : Bool} {s : Int} (hs : 0 ≤ s) {l : List Int} (hne : l ≠ []) : gvL c s l 0 (srcL c s l 0 (blownL c s l)) = blownL c s l := by
  refine ext_getD (by rw [gvL_len, srcL_len]) fun i hi => ?_
  rw [gvL_len, srcL_len] at hi
  have hi' : i < l.length := by rwa [blownL_len] at hi
  rw [gvL_get _ _ _ _ _ _ (by rw [srcL_len]; exact hi), srcL_get _ _ _ _ _ _ hi, Nat.zero_add]
  exact (src_ok hs hne hi').2
theorem best_ok {c : Bool} : ∀ {ws : List Wd} {l : List Int}, l ≠ [] → (∀ w ∈ ws, 0 ≤ w.2) → okPl c l.length ws (bestL c l ws) = true
  | [], _, _, _ => rfl
  | w :: ws, l, hne, hw => by
    rw [bestL, okPl, Bool.and_eq_true]
    refine ⟨?_, ?_⟩
    · unfold okMove
      by_cases e : w.1 = c
      · rw [if_pos e, if_pos e]; exact src_okMv (hw w (by simp)) hne
      · rw [if_neg e, if_neg e]; rfl
    · have := best_ok (c := c) (ws := ws) (l := blW l w) (blW_ne hne w) fun v hv => hw v (by simp [hv])
      rw [blW_len] at this
      exact this
theorem best_held {c : Bool} : ∀ {ws : List Wd} {l : List Int}, l ≠ [] → (∀ w ∈ ws, 0 ≤ w.2) → heldL c l ws (bestL c l ws) = behindL l ws
  | [], _, _, _ => rfl
  | w :: ws, l, hne, hw => by
    show heldL c (heldStep c l w (if w.1 = c then srcL w.1 w.2 l 0 (blW l w) else [])) ws (bestL c (blW l w) ws) = behindL (blW l w) ws
    have e : heldStep c l w (if w.1 = c then srcL w.1 w.2 l 0 (blW l w) else []) = blW l w := by
      unfold heldStep
      by_cases e : w.1 = c
      · rw [if_pos e, if_pos e]; exact src_gv (hw w (by simp)) hne
      · rw [if_neg e]
    rw [e]
    exact best_held (blW_ne hne w) fun v hv => hw v (by simp [hv])
/-! no play does better -/
theorem cut_gv {l : List Int} {s : Int} (hs : 0 ≤ s) {m : Mv} (h : okMv l.length m = true) : Lq (blW l (true, s)) (gvL true s l 0 m) := by
  obtain ⟨h1, h2⟩ := okMv_iff.mp h
  refine lq_of_get (by rw [blW_len, gvL_len, h1]) fun i hi => ?_
  rw [blW_len] at hi
  rw [blW_get_cut hs hi, gvL_get _ _ _ _ _ _ (by omega), Nat.zero_add]
  have hj := h2 (m.getD i 0) (by
    rw [List.getD_eq_getElem?_getD, List.getElem?_eq_getElem (by omega)]
    exact List.getElem_mem _)
  refine minOf_le (mem_reach.mpr ⟨(m.getD i 0).toNat, by omega, ?_⟩)
  unfold gv
  rw [if_pos rfl, show (((m.getD i 0).toNat : Nat) : Int) = m.getD i 0 by omega]
theorem mem_reachF {s i x : Int} {l : List Int} : x ∈ reachF s l i ↔ ∃ j, j < l.length ∧ x = l.getD j 0 - s * aI (i - (j : Int)) := by
  unfold reachF
  rw [List.mem_map]
  constructor
  · rintro ⟨j, hj, rfl⟩; exact ⟨j, List.mem_range.mp hj, rfl⟩
  · rintro ⟨j, hj, rfl⟩; exact ⟨j, List.mem_range.mpr hj, rfl⟩
theorem fill_gv {l : List Int} {s : Int} (hs : 0 ≤ s) {m : Mv} (h : okMv l.length m = true) : Lq (gvL false s l 0 m) (blW l (false, s)) := by
  obtain ⟨h1, h2⟩ := okMv_iff.mp h
  refine lq_of_get (by rw [blW_len, gvL_len, h1]) fun i hi => ?_
  rw [gvL_len] at hi
  rw [blW_get_fill hs (by omega), gvL_get _ _ _ _ _ _ hi, Nat.zero_add]
  have hj := h2 (m.getD i 0) (by
    rw [List.getD_eq_getElem?_getD, List.getElem?_eq_getElem (by omega)]
    exact List.getElem_mem _)
  refine le_maxOf (mem_reachF.mpr ⟨(m.getD i 0).toNat, by omega, ?_⟩)
  unfold gv
  rw [if_neg (by decide), show (((m.getD i 0).toNat : Nat) : Int) = m.getD i 0 by omega]
theorem held_ge : ∀ {ws : List Wd} {ms : List Mv} {a l : List Int}, (∀ w ∈ ws, 0 ≤ w.2) → okPl true l.length ws ms = true → Lq a l → Lq (behindL a ws) (heldL true l ws ms)
  | [], [], _, _, _, _, h => h
  | w :: ws, m :: ms, a, l, hw, ho, h => by
    rw [okPl, Bool.and_eq_true] at ho
    have e := heldStep_len ho.1
    refine held_ge (ws := ws) (ms := ms) (a := blW a w) (l := heldStep true l w m) (fun v hv => hw v (by simp [hv])) (by rw [e]; exact ho.2) ?_
    have hm : Lq (blW a w) (blW l w) := blown_mono (c := w.1) (hw w (by simp)) h
    unfold heldStep
    by_cases q : w.1 = true
    · rw [if_pos q]
      refine hm.trans ?_
      obtain ⟨c, s⟩ := w
      have q : c = true := q
      subst q
      have ho1 := ho.1
      unfold okMove at ho1
      rw [if_pos rfl] at ho1
      exact cut_gv (hw (true, s) (by simp)) ho1
    · rw [if_neg q]; exact hm
  | [], _ :: _, _, _, _, h, _ => by simp [okPl] at h
  | _ :: _, [], _, _, _, h, _ => by simp [okPl] at h
theorem held_le : ∀ {ws : List Wd} {ms : List Mv} {a l : List Int}, (∀ w ∈ ws, 0 ≤ w.2) → okPl false l.length ws ms = true → Lq l a → Lq (heldL false l ws ms) (behindL a ws)
  | [], [], _, _, _, _, h => h
  | w :: ws, m :: ms, a, l, hw, ho, h => by
    rw [okPl, Bool.and_eq_true] at ho
    have e := heldStep_len ho.1
    refine held_le (ws := ws) (ms := ms) (a := blW a w) (l := heldStep false l w m) (fun v hv => hw v (by simp [hv])) (by rw [e]; exact ho.2) ?_
    have hm : Lq (blW l w) (blW a w) := blown_mono (c := w.1) (hw w (by simp)) h
    unfold heldStep
    by_cases q : w.1 = false
    · rw [if_pos q]
      refine Lq.trans ?_ hm
      obtain ⟨c, s⟩ := w
      have q : c = false := q
      subst q
      have ho1 := ho.1
      unfold okMove at ho1
      rw [if_pos rfl] at ho1
      exact fill_gv (hw (false, s) (by simp)) ho1
    · rw [if_neg q]; exact hm
  | [], _ :: _, _, _, _, h, _ => by simp [okPl] at h
  | _ :: _, [], _, _, _, h, _ => by simp [okPl] at h
/-- one hand's best play is none of the other's -/
theorem best_other {c : Bool} {ws : List Wd} {l : List Int} (hne : l ≠ []) (hws : ws ≠ []) : okPl (!c) l.length ws (bestL c l ws) = false := by
  cases ws with
  | nil => exact absurd rfl hws
  | cons w ws =>
    rw [bestL, okPl]
    have h0 : 0 < l.length := List.length_pos_iff.mpr hne
    have e : okMove (!c) l.length w (if w.1 = c then srcL w.1 w.2 l 0 (blW l w) else []) = false := by
      unfold okMove okMv
      by_cases e : w.1 = c
      · have n : ¬ w.1 = !c := by rw [e]; cases c <;> decide
        rw [if_neg n, if_pos e, srcL_len, blW_len, decide_eq_false (by omega)]; rfl
      · have n : w.1 = !c := by cases h : w.1 <;> cases c <;> simp_all
        rw [if_pos n, if_neg e, decide_eq_false (by simp; omega)]; rfl
    rw [e]; rfl
theorem mem_okPl {c : Bool} {n : Nat} : ∀ {ws : List Wd} {ms : List Mv}, okPl c n ws ms = true → ∀ m ∈ ms, m.length ≤ n
  | [], [], _, m, h => by simp at h
  | w :: ws, k :: ms, h, m, hm => by
    rw [okPl, Bool.and_eq_true] at h
    rcases List.mem_cons.mp hm with rfl | hm
    · have := (okMv_iff.mp h.1).1
      split at this <;> omega
    · exact mem_okPl h.2 m hm
  | [], _ :: _, h, _, _ => by simp [okPl] at h
  | _ :: _, [], h, _, _ => by simp [okPl] at h
end Pl
namespace Pl
open PySem PySem.Spec PyProof.Rows L2
/-! ### plays: contracts -/
abbrev EA (C : Cell → Prop) : PEnds := { nx := fun _ => C (.val .non), rt := fun c _ => C c }
theorem rangeOk {n : Nat} (h : n ≤ 1000000) : (-(2 ^ 62) : Int) ≤ (n : Int) ∧ ((n : Int)) < 2 ^ 62 := by omega
def g_is_number : FA := fun ds C => ∃ d, ds = [d] ∧ notScr d (C (.val (.bl (d.isInt && !d.isBl))))
theorem rd_is_number : ∀ ds C, ds.length = 1 → g_is_number ds C → T_is_number (EA C) (startA N_is_number ds) := by
  rintro ds C - ⟨d, rfl, hC⟩
  cases d with
  | scr ns => exact hC.elim
  | adr a => exact hC.elim
  | exc _ _ => exact hC.elim
  | _ => exact hC
theorem isNum_int (i : Int) : ((D.int i).isInt && !(D.int i).isBl) = true := rfl
def g_given : FA := fun ds C => ∃ d ns w c s p q, ds = [d, w, .int p, .int q] ∧ Sq d ns ∧ Wn w c s ∧ ns.length ≤ 1000 ∧ 0 ≤ p ∧ p ≤ 1000 ∧ 0 ≤ q ∧ q < ns.length ∧ C (.val (.int (gv c s ns p q)))
theorem atI_dI {ns : List Int} {q : Int} (h0 : 0 ≤ q) (h : q < ns.length) : atI (dI ns) q = some (.int (ns.getD q.toNat 0)) := by
  have := atI_ints' (ns := ns) (j := q.toNat) (by omega)
  rwa [show ((q.toNat : Nat) : Int) = q by omega] at this
theorem rd_given : ∀ ds C, ds.length = 4 → g_given ds C → T_given (EA C) (startA N_given ds) := by
  rintro ds C - ⟨d, ns, w, c, s, p, q, rfl, hd, hw, hl, hp0, hp, hq0, hq, hC⟩
  have hm : CMul s (iabs (p - q)) := mulOk hp0 hp hq0 (by omega)
  unfold gv at hC
  rcases hw with rfl | rfl <;> rcases hd with rfl | rfl
  all_goals
    cases c with
    | true => exact ⟨rfl, rfl, hm, sh_cut, sh_cut, ifT (by decide +kernel) ⟨_, atI_dI hq0 hq, hC⟩⟩
    | false => exact ⟨rfl, rfl, hm, sh_fill, sh_cut, ifF (by decide +kernel) ⟨_, atI_dI hq0 hq, hC⟩⟩
theorem row_gv (c : Bool) (s : Int) (ns : List Int) (p : Int) : row c s ns p = (List.range ns.length).map fun (j : Nat) => gv c s ns p j := by
  rw [row_map]
  apply List.map_congr_left
  intro j _
  unfold gv; rw [Int.toNat_natCast]
def g_first_source : FA := fun ds C => ∃ d ns w c s p h, ds = [d, w, .int p, .int h] ∧ Sq d ns ∧ Wn w c s ∧ ns.length ≤ 1000 ∧ 0 ≤ p ∧ p ≤ 1000 ∧ h ∈ row c s ns p ∧ C (.val (.int (firstIx h (row c s ns p))))
theorem rd_first_source : ∀ ds C, ds.length = 4 → g_first_source ds C → T_first_source g_given (EA C) (startA N_first_source ds) := by
  rintro ds C - ⟨d, ns, w, c, s, p, h, rfl, hd, hw, hl, hp0, hp, hh, hC⟩
  have e : ∀ P : Nat → Prop, (P ns.length → P (dI ns).length) := fun P h => by rw [ints_len]; exact h
  have key : ∀ m : Nat, m = ns.length → (-(2 ^ 62) : Int) ≤ (m : Int) ∧ (m : Int) < 2 ^ 62 := fun m e => by omega
  have fin : ∀ m : Nat, m = ns.length → lcW [4] (hName 4) pYes (pFrz (pCallA 4 g_given (pCons (pVar 0) (pCons (pVar 1) (pCons (pVar 2) (pCons (pVar 4) pNil)))))) (fun acc ρ2 => pVar 3 ρ2 fun x ρ3 => (D.lst acc).sh ∧ x.sh ∧ ∃ (j : Nat) (z : D), acc[j]? = some z ∧ z.eqv x = true ∧ (∀ (m : Nat) (z' : D), m < j → acc[m]? = some z' → z'.eqv x = false) ∧ C (.val (.int j))) (rangeD 0 ((m : Int)).toNat) [] [some (.val d), some (.val w), some (.val (.int p)), some (.val (.int h)), none] := by
    intro m hm
    refine lc_rg ns.length (fun j => .int (gv c s ns p j)) (by omega) (fun j hj K hK => ?_) hl ?_
    · exact ⟨rfl, d, ns, w, c, s, p, j, rfl, hd, hw, hl, hp0, hp, by omega, by omega, hK _ rfl⟩
    · rw [dI_map, ← row_gv]
      exact ix_row (Q := fun y => C (.val y)) hh hC
  rcases hd with rfl | rfl
  · exact ⟨(key _ (ints_len ns)).1, (key _ (ints_len ns)).2, fin _ (ints_len ns)⟩
  · exact ⟨(key _ (ints_len ns)).1, (key _ (ints_len ns)).2, fin _ (ints_len ns)⟩
def g_sources : FA := fun ds C => ∃ d ns c s, ds = [d, windD c s] ∧ Sq d ns ∧ ns ≠ [] ∧ ns.length ≤ 1000 ∧ 0 ≤ s ∧ C (.val (tD (srcL c s ns 0 (blownL c s ns))))
theorem srcL_zip (c : Bool) (s : Int) (ns : List Int) : ∀ (l : List Int) (k : Nat), (l.zipIdx k).map (fun z => (firstIx z.1 (row c s ns z.2) : Int)) = srcL c s ns k l
  | [], _ => rfl
  | x :: l, k => by
    rw [List.zipIdx_cons, List.map_cons, srcL_zip c s ns l]; rfl
theorem rd_sources : ∀ ds C, ds.length = 2 → g_sources ds C → T_sources g_blown g_first_source (EA C) (startA N_sources ds) := by
  rintro ds C - ⟨d, ns, c, s, rfl, hd, hne, hl, hs, hC⟩
  refine ⟨rfl, d, ns, c, s, rfl, hd, hne, hl, ?_⟩
  refine lc_en (blownL c s ns) D.int (fun k x => .int (firstIx x (row c s ns k))) rfl (fun i x hx K hK => ?_) (by rw [blownL_len]; exact hl) ?_
  · have hi : i < ns.length := by have := lt_of_get hx; rwa [blownL_len] at this
    exact ⟨rfl, rfl, rfl, d, ns, _, c, s, i, x, rfl, hd, .inl rfl, hl, by omega, by omega, blown_in_row hs hne hx, hK _ rfl⟩
  · rw [dI_map, srcL_zip]; exact hC
/-! a row of posts -/
def g_is_post_row : FA := fun ds C => ∃ (n : Nat) (m : Mv), ds = [.int n, tD m] ∧ m.length ≤ 1000 ∧ n ≤ 1000 ∧ C (.val (.bl (okMv n m)))
theorem rd_is_post_row : ∀ ds C, ds.length = 2 → g_is_post_row ds C → T_is_post_row g_is_number (EA C) (startA N_is_post_row ds) := by
  rintro ds C - ⟨n, m, rfl, hm, hn, hC⟩
  refine ⟨sh_int _, sh_int _, ?_⟩
  have e : (!(D.int (((dI m).length : Nat) : Int)).eqv (.int (n : Int))) = !decide (m.length = n) := by
    rw [eqv_int, ints_len]
    by_cases h : m.length = n
    · simp [h]
    · have : ((m.length : Nat) : Int) ≠ (n : Int) := by omega
      simp [h, this]
  rw [e]
  by_cases h : m.length = n
  · refine ifF (by simp [h]) ?_
    refine lc_mp m D.int (fun j => .bl (decide (0 ≤ j) && decide (j < n))) rfl (fun j hj K hK => ⟨rfl, _, rfl, ?_⟩) hm ⟨_, all_bl m _, ?_⟩
    · refine ifB (fun q => ?_) (fun q => ?_)
      · have := hK; rw [q] at this; exact this _ rfl
      · have := hK; rw [q] at this; exact this _ rfl
    · have e2 : ((m.map fun j => decide (0 ≤ j) && decide (j < (n : Int))).all id) = okMv n m := by
        unfold okMv
        rw [decide_eq_true h, Bool.true_and, List.all_map]; rfl
      rw [e2]; exact hC
  · refine ifT (by simp [h]) ?_
    have e2 : okMv n m = false := by unfold okMv; rw [decide_eq_false h]; rfl
    rw [e2] at hC; exact hC
def g_is_move : FA := fun ds C => ∃ (n : Nat) (b : Bool) (m : Mv), ds = [.int n, .bl b, tD m] ∧ m.length ≤ 1000 ∧ n ≤ 1000 ∧ C (.val (.bl (okMv (if b = true then n else 0) m)))
theorem rd_is_move : ∀ ds C, ds.length = 3 → g_is_move ds C → T_is_move g_is_post_row (EA C) (startA N_is_move ds) := by
  rintro ds C - ⟨n, b, m, rfl, hm, hn, hC⟩
  cases b with
  | true => exact ⟨rfl, n, m, rfl, hm, hn, hC⟩
  | false => exact ⟨rfl, 0, m, rfl, hm, by omega, hC⟩
theorem eqv_word (a b : Bool) : (D.str (wordS a)).eqv (.str (wordS b)) = (a == b) := by cases a <;> cases b <;> decide +kernel
def playD (ms : List Mv) : D := .lst (ms.map tD)
theorem okPl_zip {c : Bool} {n : Nat} : ∀ {ws : List Wd} {ms : List Mv}, ms.length = ws.length → ((ws.zip ms).map fun p => okMv (if (p.1.1 == c) = true then n else 0) p.2).all id = okPl c n ws ms
  | [], [], _ => rfl
  | w :: ws, m :: ms, h => by
    rw [List.zip_cons_cons, List.map_cons, List.all_cons, okPl_zip (by simpa using h), okPl]
    congr 1
    show okMv (if (w.1 == c) = true then n else 0) m = okMove c n w m
    unfold okMove
    congr 1
    cases w.1 <;> cases c <;> rfl
  | [], _ :: _, h => by simp at h
  | _ :: _, [], h => by simp at h
theorem okPl_ne {c : Bool} {n : Nat} {ws : List Wd} {ms : List Mv} (h : ms.length ≠ ws.length) : okPl c n ws ms = false := by
  cases q : okPl c n ws ms with
  | false => rfl
  | true => exact absurd (okPl_len q) h
def g_is_play : FA := fun ds C => ∃ d ns a ws c ms, ds = [d, a, .str (wordS c), playD ms] ∧ Sq d ns ∧ Am a ws ∧ ns.length ≤ 1000 ∧ ws.length ≤ 900 ∧ (∀ m ∈ ms, m.length ≤ 1000) ∧ C (.val (.bl (okPl c ns.length ws ms)))
theorem rd_is_play : ∀ ds C, ds.length = 4 → g_is_play ds C → T_is_play g_is_move (EA C) (startA N_is_play ds) := by
  rintro ds C - ⟨d, ns, a, ws, c, ms, rfl, hd, ha, hl, hw, hm, hC⟩
  have body : ∀ (n m : Nat), n = ns.length → m = ws.length → (!(D.int (((ms.map tD).length : Nat) : Int)).eqv (.int (m : Int))) = !decide (ms.length = ws.length) := fun n m e1 e2 => by
    rw [eqv_int, List.length_map, e2]
    by_cases h : ms.length = ws.length
    · simp [h]
    · have : ((ms.length : Nat) : Int) ≠ (ws.length : Int) := by omega
      simp [h, this]
  have elem : ∀ (x : Wd) (y : Mv) (q : D), Sq q ns → (x, y) ∈ ws.zip ms → ∀ a', ElemOk [4, 5] (hTup 2 (hCons (hName 4) (hCons (hName 5) hNil))) (pFrz (pCallA 3 g_is_move (pCons (pLenO 0) (pCons (pOp fEq (pIxO 4 (pC (.int 0))) (pVar 2)) (pCons (pVar 5) pNil))))) [some (.val q), some (.val a'), some (.val (.str (wordS c))), some (.val (playD ms)), none, none] (.tup [windD x.1 x.2, tD y]) (.bl (okMv (if (x.1 == c) = true then ns.length else 0) y)) := by
    intro x y q hq hxy a' K hK
    have hy := hm y (List.of_mem_zip hxy).2
    rw [← eqv_word] at hK
    rcases hq with rfl | rfl
    · refine ⟨rfl, rfl, _, rfl, sh_word _, sh_word _, rfl, ns.length, _, y, ?_, hy, hl, hK _ rfl⟩
      show [D.int (((dI ns).length : Nat) : Int), _, tD y] = _
      rw [ints_len]
    · refine ⟨rfl, rfl, _, rfl, sh_word _, sh_word _, rfl, ns.length, _, y, ?_, hy, hl, hK _ rfl⟩
      show [D.int (((dI ns).length : Nat) : Int), _, tD y] = _
      rw [ints_len]
  have fin : ∀ a', Am a' ws → ∀ Q : List D → Ro → Prop, ms.length = ws.length → Q (((ws.zip ms).map fun p => okMv (if (p.1.1 == c) = true then ns.length else 0) p.2).map D.bl) [some (.val d), some (.val a'), some (.val (.str (wordS c))), some (.val (playD ms)), none, none] → lcW [4, 5] (hTup 2 (hCons (hName 4) (hCons (hName 5) hNil))) pYes (pFrz (pCallA 3 g_is_move (pCons (pLenO 0) (pCons (pOp fEq (pIxO 4 (pC (.int 0))) (pVar 2)) (pCons (pVar 5) pNil))))) Q (zipD (windsD ws) (ms.map tD)) [] [some (.val d), some (.val a'), some (.val (.str (wordS c))), some (.val (playD ms)), none, none] := by
    intro a' ha' Q hml hQ
    refine lc_zp ws ms (fun w => windD w.1 w.2) tD (fun x y => .bl (okMv (if (x.1 == c) = true then ns.length else 0) y)) rfl rfl (fun x y hxy => elem x y d hd hxy a') (by omega) ?_
    rw [all_bl]; exact hQ
  rcases ha with rfl | rfl
  all_goals
    refine ⟨sh_int _, sh_int _, ?_⟩
    rw [body ns.length _ rfl (windsD_len ws)]
    by_cases h : ms.length = ws.length
    · refine ifF (by simp [h]) (fin _ (by first | exact .inl rfl | exact .inr rfl) _ h ⟨_, rfl, ?_⟩)
      rw [okPl_zip h]; exact hC
    · refine ifT (by simp [h]) ?_
      rw [okPl_ne h] at hC; exact hC
def g_is_post : FA := fun ds C => ∃ d ns p, ds = [d, .int p] ∧ Sq d ns ∧ C (.val (.bl (decide (0 ≤ p) && decide (p < ns.length))))
theorem rd_is_post : ∀ ds C, ds.length = 2 → g_is_post ds C → T_is_post g_is_number (EA C) (startA N_is_post ds) := by
  rintro ds C - ⟨d, ns, p, rfl, hd, hC⟩
  have e : ∀ P : Prop, (decide (p < (((dI ns).length : Nat) : Int))) = decide (p < (ns.length : Int)) := fun _ => by rw [ints_len]
  rcases hd with rfl | rfl
  all_goals
    refine ⟨rfl, _, rfl, ?_⟩
    refine ifB (fun q => ?_) (fun q => ?_)
    · show C (.val (.bl (decide (p < (((dI ns).length : Nat) : Int)))))
      rw [e True]; rw [q] at hC; exact hC
    · rw [q] at hC; exact hC
/-! held -/
def g_played : FA := fun ds C => ∃ d ns w c s m, ds = [d, w, tD m] ∧ Sq d ns ∧ Wn w c s ∧ ns.length ≤ 1000 ∧ m.length ≤ 1000 ∧ (∀ j ∈ m, 0 ≤ j ∧ j < ns.length) ∧ C (.val (tD (gvL c s ns 0 m)))
theorem gvL_zip (c : Bool) (s : Int) (ns : List Int) : ∀ (m : List Int) (k : Nat), (m.zipIdx k).map (fun z => gv c s ns ((z.2 : Nat) : Int) z.1) = gvL c s ns k m
  | [], _ => rfl
  | x :: m, k => by rw [List.zipIdx_cons, List.map_cons, gvL_zip c s ns m]; rfl
theorem rd_played : ∀ ds C, ds.length = 3 → g_played ds C → T_played g_given (EA C) (startA N_played ds) := by
  rintro ds C - ⟨d, ns, w, c, s, m, rfl, hd, hw, hl, hml, hm, hC⟩
  refine lc_en m D.int (fun k x => .int (gv c s ns ((k : Nat) : Int) x)) rfl (fun i x hx K hK => ?_) hml ?_
  · have hi := lt_of_get hx
    have hx' := hm x (List.mem_of_getElem? hx)
    exact ⟨rfl, rfl, rfl, d, ns, w, c, s, i, x, rfl, hd, hw, hl, by omega, by omega, hx'.1, hx'.2, hK _ rfl⟩
  · rw [dI_map, gvL_zip]; exact hC
def g_held : FA := fun ds C => ∃ d ns a ws c ms, ds = [d, a, .str (wordS c), playD ms] ∧ Sq d ns ∧ Am a ws ∧ ns ≠ [] ∧ ns.length ≤ 1000 ∧ okPl c ns.length ws ms = true ∧ C (.val (tD (heldL c ns ws ms)))
theorem rd_held : ∀ ds C, ds.length = 4 → g_held ds C → T_held g_blown g_played (EA C) (startA N_held ds) := by
  rintro ds C - ⟨d, ns, a, ws, c, ms, rfl, hd, ha, hne, hl, ho, hC⟩
  have fin : ∀ (P : PEnds), P.rt = (fun c _ => C c) → ∀ (w0 w1 : Option Cell), (∀ ρ, (∃ w5 w6, ρ = [w0, w1, some (.val (.str (wordS c))), some (.val (playD ms)), some (.val (tD (heldL c ns ws ms))), w5, w6]) → P.nx ρ) →
      forW (hTup 2 (hCons (hName 5) (hCons (hName 6) hNil))) (pSet 4 (pVal (pIf (pTest (pOp fEq (pIxO 5 (pC (.int 0))) (pVar 2))) (pFrz (pCallA 3 g_played (pCons (pVar 4) (pCons (pVar 5) (pCons (pVar 6) pNil))))) (pFrz (pCallA 2 g_blown (pCons (pVar 4) (pCons (pVar 5) pNil))))))) P (zipD (windsD ws) (ms.map tD)) [w0, w1, some (.val (.str (wordS c))), some (.val (playD ms)), some (.val (tD ns)), none, none] := by
    intro P hP w0 w1 hfin
    refine fr_zp ws ms (fun w => windD w.1 w.2) tD (fun r ρ => ∃ (ws' : List Wd) (ms' : List Mv) (now : List Int) (w5 w6 : Option Cell), r = ws'.zip ms' ∧ now ≠ [] ∧ now.length ≤ 1000 ∧ okPl c now.length ws' ms' = true ∧ heldL c now ws' ms' = heldL c ns ws ms ∧ ρ = [w0, w1, some (.val (.str (wordS c))), some (.val (playD ms)), some (.val (tD now)), w5, w6]) rfl rfl ⟨ws, ms, ns, none, none, rfl, hne, hl, ho, rfl, rfl⟩ (fun x y r ρ K hI hK => ?_) (fun ρ hI => ?_)
    · obtain ⟨ws', ms', now, w5, w6, e1, h1, h2, h3, h4, rfl⟩ := hI
      match ws', ms', e1 with
      | w :: ws', m :: ms', e1 =>
        rw [List.zip_cons_cons, List.cons.injEq] at e1
        obtain ⟨e0, e1⟩ := e1
        cases e0
        rw [okPl, Bool.and_eq_true] at h3
        have hsl := heldStep_len h3.1
        have nxt : K [w0, w1, some (.val (.str (wordS c))), some (.val (playD ms)), some (.val (tD (heldStep c now x y))), some (.val (windD x.1 x.2)), some (.val (tD y))] :=
          hK _ ⟨ws', ms', heldStep c now x y, _, _, e1, ne_len hsl h1, by omega, by rw [hsl]; exact h3.2, h4, rfl⟩
        refine ⟨rfl, rfl, _, rfl, sh_word _, sh_word _, ?_⟩
        rw [eqv_word]
        by_cases q : x.1 = c
        · have hm := h3.1
          unfold okMove at hm
          rw [if_pos q] at hm
          obtain ⟨m1, m2⟩ := okMv_iff.mp hm
          refine ifT (by rw [q]; simp) ⟨rfl, _, now, _, x.1, x.2, y, rfl, .inl rfl, .inl rfl, h2, by omega, m2, ?_⟩
          unfold heldStep at nxt
          rw [if_pos q] at nxt
          exact nxt
        · refine ifF (by cases h : x.1 <;> cases c <;> simp_all) ⟨rfl, _, now, x.1, x.2, rfl, .inl rfl, h1, h2, ?_⟩
          unfold heldStep at nxt
          rw [if_neg q] at nxt
          exact nxt
      | [], _, e1 => simp at e1
      | _ :: _, [], e1 => simp at e1
    · obtain ⟨ws', ms', now, w5, w6, e1, h1, h2, h3, h4, rfl⟩ := hI
      have hlen := okPl_len h3
      have : ws' = [] := by
        cases ws' with
        | nil => rfl
        | cons w ws' =>
          cases ms' with
          | nil => simp at hlen
          | cons m ms' => simp at e1
      subst this
      have : ms' = [] := by cases ms' with | nil => rfl | cons m ms' => simp at hlen
      subst this
      have h4 : now = heldL c ns ws ms := h4
      subst h4
      exact hfin _ ⟨_, _, rfl⟩
  rcases ha with rfl | rfl <;> rcases hd with rfl | rfl
  all_goals exact fin _ rfl _ _ (fun ρ ⟨w5, w6, e⟩ => by subst e; exact hC)
theorem daysL_get : ∀ (ws : List Wd) (l : List Int) (k : Nat) (w : Wd), ws[k]? = some w → (daysL l ws)[k]? = some (behindL l (ws.take k))
  | [], _, _, _, h => by simp at h
  | v :: ws, l, 0, w, _ => by
    show (daysL l (v :: ws))[0]? = some l
    rfl
  | v :: ws, l, k + 1, w, h => by
    show (l :: daysL (blW l v) ws)[k + 1]? = _
    rw [List.getElem?_cons_succ, daysL_get ws (blW l v) k w (by simpa using h)]; rfl
def bestM (c : Bool) (l : List Int) (ws : List Wd) (k : Nat) (w : Wd) : Mv := if w.1 = c then srcL w.1 w.2 (behindL l (ws.take k)) 0 (blW (behindL l (ws.take k)) w) else []
theorem bestL_zip (c : Bool) : ∀ (ws : List Wd) (l : List Int), bestL c l ws = ws.zipIdx.map fun z => bestM c l ws z.2 z.1
  | [], _ => rfl
  | w :: ws, l => by
    rw [bestL, List.zipIdx_cons, List.map_cons, bestL_zip c ws, List.zipIdx_succ, List.map_map]; rfl
def g_best_play : FA := fun ds C => ∃ d ns a ws c, ds = [d, a, .str (wordS c)] ∧ Sq d ns ∧ Am a ws ∧ ns ≠ [] ∧ ns.length ≤ 1000 ∧ ws.length ≤ 900 ∧ (∀ w ∈ ws, 0 ≤ w.2) ∧ ∀ p, C (.own p ((bestL c ns ws).map tD))
theorem rd_best_play : ∀ ds C, ds.length = 3 → g_best_play ds C → T_best_play g_sources g_days (EA C) (startA N_best_play ds) := by
  rintro ds C - ⟨d, ns, a, ws, c, rfl, hd, ha, hne, hl, hwl, hw, hC⟩
  refine ⟨rfl, d, ns, a, ws, rfl, hd, ha, hne, hl, hwl, fun p => ?_⟩
  have fin : ∀ a', lcW [4, 5] (hTup 2 (hCons (hName 4) (hCons (hName 5) hNil))) pYes (pIf (pTest (pOp fEq (pIxO 5 (pC (.int 0))) (pVar 2))) (pFrz (pCallA 2 g_sources (pCons (pIxO 3 (pVar 4)) (pCons (pVar 5) pNil)))) (pTup pNil)) (fun acc ρ2 => ∀ q, C (.own q acc)) (enumD 0 (windsD ws)) [] [some (.val d), some (.val a'), some (.val (.str (wordS c))), some (.own p ((daysL ns ws).map tD)), none, none] := by
    intro a'
    refine lc_en ws (fun w => windD w.1 w.2) (fun k w => tD (bestM c ns ws k w)) rfl (fun k w hk K hK => ?_) (by omega) fun q => ?_
    · refine ⟨rfl, rfl, _, rfl, sh_word _, sh_word _, ?_⟩
      rw [eqv_word]
      by_cases e : w.1 = c
      · refine ifT (by rw [e]; simp) ⟨_, _, tD (behindL ns (ws.take k)), rfl, rfl, ?_, rfl, _, behindL ns (ws.take k), w.1, w.2, rfl, .inl rfl, behindL_ne hne _, by rw [behindL_len]; exact hl, hw w (List.mem_of_getElem? hk), ?_⟩
        · have h1 := daysL_get ws ns k w hk
          have : ((daysL ns ws).map tD)[k]? = some (tD (behindL ns (ws.take k))) := by rw [List.getElem?_map, h1]; rfl
          exact atI_nat this
        · unfold bestM at hK
          rw [if_pos e] at hK
          exact hK _ rfl
      · refine ifF (by cases h : w.1 <;> cases c <;> simp_all) ⟨Nat.zero_le _, ?_⟩
        unfold bestM at hK
        rw [if_neg e] at hK
        exact hK _ rfl
    · have := hC q
      rw [bestL_zip, List.map_map] at this
      exact this
  rcases ha with rfl | rfl
  · exact fin _
  · exact fin _
def g_shows (cut : Bool) : FA := fun ds C => ∃ d ns a ws p h ms, ds = [d, a, .int p, .int h, playD ms] ∧ Sq d ns ∧ Am a ws ∧ ns ≠ [] ∧ ns.length ≤ 1000 ∧ ws.length ≤ 900 ∧ (∀ m ∈ ms, m.length ≤ 1000) ∧ 0 ≤ p ∧ p < ns.length ∧ C (.val (.bl (okPl cut ns.length ws ms && (if cut = true then decide ((heldL cut ns ws ms).getD p.toNat 0 ≤ h) else decide (h ≤ (heldL cut ns ws ms).getD p.toNat 0)))))
abbrev g_shows_most : FA := g_shows true
abbrev g_shows_least : FA := g_shows false
theorem rd_shows_most : ∀ ds C, ds.length = 5 → g_shows_most ds C → T_shows_most g_held g_is_play g_is_post (EA C) (startA N_shows_most ds) := by
  rintro ds C - ⟨d, ns, a, ws, p, h, ms, rfl, hd, ha, hne, hl, hwl, hm, hp0, hp, hC⟩
  refine ⟨rfl, d, ns, p, rfl, hd, ?_⟩
  rw [decide_eq_true hp0, decide_eq_true hp]
  refine ⟨rfl, d, ns, a, ws, true, ms, rfl, hd, ha, hl, hwl, hm, ?_⟩
  cases ho : okPl true ns.length ws ms with
  | false => rw [ho] at hC; exact hC
  | true =>
    rw [ho] at hC
    refine ⟨rfl, d, ns, a, ws, true, ms, rfl, hd, ha, hne, hl, ho, _, atI_dI hp0 (by rw [heldL_len ho]; exact hp), ?_⟩
    rw [if_pos rfl] at hC
    exact hC
theorem rd_shows_least : ∀ ds C, ds.length = 5 → g_shows_least ds C → T_shows_least g_held g_is_play g_is_post (EA C) (startA N_shows_least ds) := by
  rintro ds C - ⟨d, ns, a, ws, p, h, ms, rfl, hd, ha, hne, hl, hwl, hm, hp0, hp, hC⟩
  refine ⟨rfl, d, ns, p, rfl, hd, ?_⟩
  rw [decide_eq_true hp0, decide_eq_true hp]
  refine ⟨rfl, d, ns, a, ws, false, ms, rfl, hd, ha, hl, hwl, hm, ?_⟩
  cases ho : okPl false ns.length ws ms with
  | false => rw [ho] at hC; exact hC
  | true =>
    rw [ho] at hC
    refine ⟨rfl, d, ns, a, ws, false, ms, rfl, hd, ha, hne, hl, ho, _, atI_dI hp0 (by rw [heldL_len ho]; exact hp), ?_⟩
    rw [if_neg (by decide)] at hC
    exact hC
end Pl
namespace Pl
open PySem PySem.Spec PyProof.Rows L2
abbrev EB (a : Addr) (C : Cell → List D → Prop) : PEnds := { nx := fun ρ => ∃ ys, ρ[0]? = some (some (.own a ys)) ∧ C (.val .non) ys, rt := fun c ρ => ∃ ys, ρ[0]? = some (some (.own a ys)) ∧ C c ys }
theorem dI_snoc (a : List Int) (x : Int) : dI (a ++ [x]) = dI a ++ [.int x] := by simp
theorem sIx_m1 (n d : Nat) : HT.sIx n d (some (-1)) = n - 1 := by
  show (if (-1 : Int) < 0 then ((-1 : Int) + (n : Int)).toNat else min (-1 : Int).toNat n) = n - 1
  rw [if_pos (by decide)]; omega
theorem cutD_init {xs : List D} {x : D} : cutD (xs ++ [x]) none (some (-1)) = xs := by
  unfold cutD
  rw [HT.sIx_none, List.drop_zero, Nat.sub_zero, sIx_m1, List.length_append, List.length_singleton, Nat.add_sub_cancel]
  exact List.take_left
theorem sh_nil : (D.lst []).sh := by unfold D.sh; decide +kernel
theorem gv_mul (c : Bool) (s : Int) (l : List Int) (p : Int) (j : Nat) : l.getD j 0 + s * aI (p - j) * (if c = true then 1 else -1) = gv c s l p j := by
  unfold gv
  rw [Int.toNat_natCast]
  cases c with
  | true => rw [if_pos rfl, if_pos rfl, Int.mul_one]
  | false => rw [if_neg (by decide), if_neg (by decide), Int.mul_neg, Int.mul_one]; omega
theorem map_range_getD {l : List Int} : (List.range l.length).map (fun (j : Nat) => l.getD j 0) = l := by
  refine ext_getD (by simp) fun i hi => ?_
  rw [List.length_map, List.length_range] at hi
  rw [List.getD_eq_getElem?_getD, List.getElem?_map, List.getElem?_range hi]; rfl
theorem lenR (ns : List Int) (h : ns.length ≤ 1000000) : (-(2 ^ 62) : Int) ≤ (((dI ns).length : Nat) : Int) ∧ (((dI ns).length : Nat) : Int) < 2 ^ 62 ∧ (((dI ns).length : Nat) : Int).toNat = ns.length := by
  rw [ints_len]; omega
/-! ### sources by the law's own going through all -/
def g__law_sources : FA := fun ds C => ∃ d ns c s, ds = [d, windD c s] ∧ Sq d ns ∧ ns ≠ [] ∧ ns.length ≤ 900 ∧ 0 ≤ s ∧ C (.val (tD (srcL c s ns 0 (blownL c s ns))))
theorem rd__law_sources : ∀ ds C, ds.length = 2 → g__law_sources ds C → T__law_sources g__law_blown (EA C) (startA N__law_sources ds) := by
  rintro ds C - ⟨d, ns, c, s, rfl, hd, hne, hl, hs, hC⟩
  refine ⟨rfl, rfl, Nat.zero_le _, fun b => ⟨rfl, d, ns, c, s, rfl, hd, hne, by omega, hs, ?_⟩⟩
  refine fr_en (blownL c s ns) D.int (fun k r ρ => ∃ (got : List Int) (w5 w6 w8 : Option Cell), (∀ (i : Nat) x, r[i]? = some x → x ∈ row c s ns ((k + i : Nat) : Int)) ∧ k + r.length ≤ 900 ∧ got.length = k ∧ got ++ srcL c s ns k r = srcL c s ns 0 (blownL c s ns) ∧ ρ = [some (.val d), some (.val (windD c s)), some (.val (.str (wordS c))), some (.val (.int s)), some (.own b (dI got)), w5, w6, none, w8]) rfl ⟨[], none, none, none, fun i x hx => by rw [Nat.zero_add]; exact blown_in_row hs hne hx, by rw [blownL_len]; omega, rfl, rfl, rfl⟩ (fun k h r ρ K hI hK => ?_) (fun k ρ hI => ?_)
  · obtain ⟨got, w5, w6, w8, hr, hk, hg, e2, rfl⟩ := hI
    have hk' : k + (r.length + 1) ≤ 900 := hk
    have hh : h ∈ row c s ns (k : Int) := hr 0 h rfl
    have nxt := hK [some (.val d), some (.val (windD c s)), some (.val (.str (wordS c))), some (.val (.int s)), some (.own b (dI got ++ [.int (firstIx h (row c s ns k))])), some (.val (.int k)), some (.val (.int h)), none, some (.val (.lst (dI (row c s ns k))))] ⟨got ++ [(firstIx h (row c s ns k) : Int)], some (.val (.int k)), some (.val (.int h)), some (.val (.lst (dI (row c s ns k)))), fun i x hx => by
        have := hr (i + 1) x (by simpa using hx)
        rw [show k + (i + 1) = k + 1 + i by omega] at this
        exact this, by omega, by simp; omega, by rw [← e2, List.append_assoc]; rfl, by rw [dI_snoc]⟩
    have elem : ∀ (j : Nat), j < ns.length → ElemOk [7] (hName 7) (pOp fAdd (pIxO 0 (pVar 7)) (pOp fMulI (pOp fMulI (pVar 3) (pCB fAbs (pCons (pOp fSub (pVar 5) (pVar 7)) pNil))) (pIf (pTest (pOp fEq (pVar 2) (pC (.str "cut")))) (pC (.int 1)) (pUn fNeg (pC (.int 1)))))) [some (.val d), some (.val (windD c s)), some (.val (.str (wordS c))), some (.val (.int s)), some (.own b (dI got)), some (.val (.int k)), some (.val (.int h)), none, w8] (.int j) (.int (gv c s ns k j)) := by
      intro j hj K2 hK2
      have hm : CMul s (iabs ((k : Int) - j)) := mulOk (by omega) (by omega) (by omega) (by omega)
      rw [← gv_mul] at hK2
      rcases hd with rfl | rfl
      all_goals
        refine ⟨_, atI_ints' hj, hm, sh_word c, sh_cut, ?_⟩
        cases c with
        | true => exact ifT (by decide +kernel) ⟨.inr ⟨by decide, by decide⟩, hK2 _ rfl⟩
        | false => exact ifF (by decide +kernel) ⟨.inr ⟨by decide, by decide⟩, hK2 _ rfl⟩
    obtain ⟨l1, l2, l3⟩ := lenR ns (by omega)
    have body : ∀ d', d = d' → ∀ (Q : List D → Ro → Prop), Q (dI (row c s ns k)) [some (.val d), some (.val (windD c s)), some (.val (.str (wordS c))), some (.val (.int s)), some (.own b (dI got)), some (.val (.int k)), some (.val (.int h)), none, w8] → lcW [7] (hName 7) pYes (pOp fAdd (pIxO 0 (pVar 7)) (pOp fMulI (pOp fMulI (pVar 3) (pCB fAbs (pCons (pOp fSub (pVar 5) (pVar 7)) pNil))) (pIf (pTest (pOp fEq (pVar 2) (pC (.str "cut")))) (pC (.int 1)) (pUn fNeg (pC (.int 1)))))) Q (rangeD 0 (((dI ns).length : Nat) : Int).toNat) [] [some (.val d), some (.val (windD c s)), some (.val (.str (wordS c))), some (.val (.int s)), some (.own b (dI got)), some (.val (.int k)), some (.val (.int h)), none, w8] := by
      intro d' _ Q hQ
      refine lc_rg ns.length (fun j => .int (gv c s ns k j)) l3 elem (by omega) ?_
      rw [dI_map, ← row_gv]; exact hQ
    have last : pAppend 4 (pIndex (pVar 8) (pVar 6)) { nx := K, rt := (EA C).rt, bk := pRet (pVal (pCB fTup (pCons (pVar 4) pNil))) (EA C), ct := K } [some (.val d), some (.val (windD c s)), some (.val (.str (wordS c))), some (.val (.int s)), some (.own b (dI got)), some (.val (.int k)), some (.val (.int h)), none, some (.val (.lst (dI (row c s ns k))))] := by
      refine ix_row (Q := fun y => ∃ xs1, ([some (Cell.val d), some (.val (windD c s)), some (.val (.str (wordS c))), some (.val (.int s)), some (.own b (dI got)), some (.val (.int k)), some (.val (.int h)), none, some (.val (.lst (dI (row c s ns k))))] : Ro)[4]? = some (some (.own b xs1)) ∧ xs1.length < sizeLine ∧ K (([some (Cell.val d), some (.val (windD c s)), some (.val (.str (wordS c))), some (.val (.int s)), some (.own b (dI got)), some (.val (.int k)), some (.val (.int h)), none, some (.val (.lst (dI (row c s ns k))))] : Ro).set 4 (some (.own b (xs1 ++ [y]))))) hh ?_
      exact ⟨dI got, rfl, small1000 (by rw [ints_len]; omega), nxt⟩
    rcases hd with rfl | rfl
    · exact ⟨rfl, rfl, l1, l2, body _ rfl _ last⟩
    · exact ⟨rfl, rfl, l1, l2, body _ rfl _ last⟩
  · obtain ⟨got, w5, w6, w8, hr, hk, hg, e2, rfl⟩ := hI
    have e2 : got = srcL c s ns 0 (blownL c s ns) := by rw [← e2]; simp [srcL]
    subst e2
    exact hC
theorem okPl_snoc {c : Bool} {n : Nat} {w : Wd} {m : Mv} : ∀ {ws : List Wd} {ms : List Mv}, okPl c n ws ms = true → okMove c n w m = true → okPl c n (ws ++ [w]) (ms ++ [m]) = true
  | [], [], _, h => by show (okMove c n w m && true) = true; rw [h]; rfl
  | v :: ws, k :: ms, h, g => by
    rw [okPl, Bool.and_eq_true] at h
    show (okMove c n v k && okPl c n (ws ++ [w]) (ms ++ [m])) = true
    rw [h.1, okPl_snoc h.2 g]; rfl
  | [], _ :: _, h, _ => by simp [okPl] at h
  | _ :: _, [], h, _ => by simp [okPl] at h
/-- some play of that word -/
def g__law_play : FB := fun xs ds C => ∃ n ns ws c, n ≤ 1000000000 ∧ Bx n xs ∧ ds = [tD ns, .lst (windsD ws), .str (wordS c)] ∧ ns ≠ [] ∧ ns.length ≤ 100 ∧ ws.length ≤ 100 ∧ (∀ w ∈ ws, 0 ≤ w.2) ∧ ∀ p ms zs, okPl c ns.length ws ms = true → Bx (n + 500 * ws.length) zs → C (.own p (ms.map tD)) zs
theorem rd__law_play : ∀ a xs ds C, ds.length + 1 = 4 → g__law_play xs ds C → T__law_play (g_take 100000000000000) g__law_of g__law_blown g__law_sources (EB a C) (startB N__law_play a xs ds) := by
  rintro a xs ds C - ⟨n, ns, ws, c, hn, hB, rfl, hne, hl, hwl, hw, hC⟩
  have h0 : 0 < ns.length := List.length_pos_iff.mpr hne
  refine ⟨Nat.zero_le _, fun b => ?_⟩
  refine fr_mp ws (fun w => windD w.1 w.2) (fun r ρ => ∃ (dn : List Wd) (ms : List Mv) (zs : List D) (w6 w7 w9 : Option Cell), dn ++ r = ws ∧ okPl c ns.length dn ms = true ∧ Bx (n + 500 * dn.length) zs ∧ ρ = [some (.own a zs), some (.val (tD ns)), some (.val (.lst (windsD ws))), some (.val (.str (wordS c))), some (.own b (ms.map tD)), some (.val (tD (behindL ns dn))), w6, w7, none, w9]) rfl ⟨[], [], xs, none, none, none, rfl, rfl, hB, rfl⟩ (fun w r ρ K hI hK => ?_) (fun ρ hI => ?_)
  · obtain ⟨dn, ms, zs, w6, w7, w9, e1, ho, hz, rfl⟩ := hI
    have hwm : w ∈ ws := by rw [← e1]; simp
    have hw0 := hw w hwm
    have hdl : dn.length + (r.length + 1) ≤ 100 := by
      have := congrArg List.length e1
      rw [List.length_append, List.length_cons] at this
      omega
    have hml : ms.length = dn.length := okPl_len ho
    have hne2 := behindL_ne hne dn
    have hbl := behindL_len dn ns
    have step : ∀ (m : Mv) (zs : List D) (w7 w9 : Option Cell), okMove c ns.length w m = true → Bx (n + 500 * (dn.length + 1)) zs → K [some (.own a zs), some (.val (tD ns)), some (.val (.lst (windsD ws))), some (.val (.str (wordS c))), some (.own b (ms.map tD ++ [tD m])), some (.val (tD (blW (behindL ns dn) w))), some (.val (windD w.1 w.2)), w7, none, w9] := fun m zs w7 w9 hm hz =>
      hK _ ⟨dn ++ [w], ms ++ [m], zs, some (.val (windD w.1 w.2)), w7, w9, by rw [← e1, List.append_assoc]; rfl, okPl_snoc ho hm, by rw [List.length_append, List.length_singleton]; exact hz, by rw [behindL_append, List.map_append]; rfl⟩
    refine ⟨_, rfl, sh_word _, sh_word _, ?_⟩
    rw [eqv_word]
    by_cases q : w.1 = c
    · refine ifT (by rw [q]; simp) ?_
      refine ⟨rfl, _, behindL ns dn, w.1, w.2, rfl, .inl rfl, hne2, by omega, hw0, ?_⟩
      obtain ⟨l1, l2, l3⟩ := lenR ns (by omega)
      refine ⟨l1, l2, ?_⟩
      have hsl : (srcL w.1 w.2 (behindL ns dn) 0 (blownL w.1 w.2 (behindL ns dn))).length = ns.length := by rw [srcL_len, blownL_len, hbl]
      have hso := okMv_iff.mp (src_okMv (c := w.1) hw0 hne2)
      refine lcW_draw (fun zs => [some (.own a zs), some (.val (tD ns)), some (.val (.lst (windsD ws))), some (.val (.str (wordS c))), some (.own b (ms.map tD)), some (.val (tD (behindL ns dn))), some (.val (windD w.1 w.2)), some (.val (tD (srcL w.1 w.2 (behindL ns dn) 0 (blownL w.1 w.2 (behindL ns dn))))), none, w9]) 4 10000000000 (fun d => ∃ j : Nat, d = .int (j : Int) ∧ j < ns.length) (fun _ y => 0 ≤ y ∧ y < ns.length) (fun d zs m K2 hp hz hm hK2 => ?_) _ [] (n + 500 * dn.length) zs hz ?_ ?_ ?_ fun out zs2 ho2 hz2 => ?_
      · obtain ⟨j, rfl, hj⟩ := hp
        have hsj := hso.2 ((srcL w.1 w.2 (behindL ns dn) 0 (blownL w.1 w.2 (behindL ns dn))).getD j 0) (by
          rw [List.getD_eq_getElem?_getD, List.getElem?_eq_getElem (by omega)]; exact List.getElem_mem _)
        rw [hbl] at hsj
        refine ⟨_, atI_ints' (by omega), _, atI_ints' (by omega), zs, rfl, rfl, m, ((dI ns).length : Nat), by omega, hz, rfl, by rw [ints_len]; omega, by rw [ints_len]; omega, fun y zs3 y0 y1 hz3 => ?_⟩
        rw [ints_len] at y1
        refine ⟨by show (4 : Nat) ≤ sizeLine; decide, zs3, rfl, rfl, _, _, _, by omega, hz3, rfl, .inl rfl, by show (0 : Nat) < 4; decide, by show (4 : Nat) ≤ 1000; decide, fun v zs4 hv hz4 => ?_⟩
        have fin : ∀ x : Int, v = .int x → 0 ≤ x → x < ns.length → K2 v [some (.own a zs4), some (.val (tD ns)), some (.val (.lst (windsD ws))), some (.val (.str (wordS c))), some (.own b (ms.map tD)), some (.val (tD (behindL ns dn))), some (.val (windD w.1 w.2)), some (.val (tD (srcL w.1 w.2 (behindL ns dn) 0 (blownL w.1 w.2 (behindL ns dn))))), some (.val (.int (j : Int))), w9] := fun x e x0 x1 => by
          subst e
          exact hK2 x zs4 _ (hz4.mono (by omega)) ⟨x0, x1⟩ rfl
        rcases List.mem_cons.mp hv with e | hv
        · exact fin j e (by omega) (by omega)
        rcases List.mem_cons.mp hv with e | hv
        · exact fin _ e hsj.1 hsj.2
        rcases List.mem_cons.mp hv with e | hv
        · exact fin _ e hsj.1 hsj.2
        · exact fin y (List.mem_singleton.mp hv) y0 y1
      · rw [l3, rangeD_nat, List.length_map, List.length_range]; omega
      · intro d hd
        rw [l3, rangeD_nat] at hd
        obtain ⟨j, hj, rfl⟩ := List.mem_map.mp hd
        exact ⟨j, rfl, List.mem_range.mp hj⟩
      · rw [l3, rangeD_nat, List.length_map, List.length_range]; show 0 + ns.length ≤ 1000; omega
      · have hlen := ho2.length
        rw [l3, rangeD_nat, List.length_map, List.length_range] at hlen hz2
        have hom : okMove c ns.length w out = true := by
          unfold okMove; rw [if_pos q]
          exact okMv_iff.mpr ⟨hlen, fun j hj => (ho2.mem hj).choose_spec.2⟩
        refine ⟨_, rfl, small1000 (by rw [List.length_map]; omega), ?_⟩
        refine ⟨rfl, _, behindL ns dn, w.1, w.2, rfl, .inl rfl, hne2, by omega, hw0, ?_⟩
        exact step out zs2 _ _ hom (hz2.mono (by omega))
    · refine ifF (by cases h : w.1 <;> cases c <;> simp_all) ?_
      refine ⟨Nat.zero_le _, _, rfl, small1000 (by rw [List.length_map]; omega), ?_⟩
      refine ⟨rfl, _, behindL ns dn, w.1, w.2, rfl, .inl rfl, hne2, by omega, hw0, ?_⟩
      exact step [] zs _ _ (by unfold okMove; rw [if_neg q]; rfl) (hz.mono (by omega))
  · obtain ⟨dn, ms, zs, w6, w7, w9, e1, ho, hz, rfl⟩ := hI
    rw [List.append_nil] at e1
    subst e1
    exact ⟨zs, rfl, hC b ms zs ho hz⟩
def g_contrary : FA := fun ds C => ∃ w c s, ds = [w] ∧ Wn w c s ∧ C (.val (windD (!c) s))
theorem rd_contrary : ∀ ds C, ds.length = 1 → g_contrary ds C → T_contrary (EA C) (startA N_contrary ds) := by
  rintro ds C - ⟨w, c, s, rfl, hw, hC⟩
  rcases hw with rfl | rfl
  all_goals
    refine ⟨rfl, rfl, sh_word _, sh_cut, ?_⟩
    cases c with
    | true => exact ifT (by decide +kernel) ⟨by show (2 : Nat) ≤ sizeLine; decide, hC⟩
    | false => exact ifF (by decide +kernel) ⟨by show (2 : Nat) ≤ sizeLine; decide, hC⟩
end Pl
namespace Pl
open PySem PySem.Spec PyProof.Rows L2
/-! ### cores -/
/-- the word of the first wind with that slope at most -/
def fs : List Wd → Int → Option Bool
  | [], _ => none
  | w :: ws, t => if w.2 ≤ t then some w.1 else fs ws t
theorem fs_pos {w : Wd} {ws : List Wd} {t : Int} (h : w.2 ≤ t) : fs (w :: ws) t = some w.1 := if_pos h
theorem fs_neg {w : Wd} {ws : List Wd} {t : Int} (h : ¬ w.2 ≤ t) : fs (w :: ws) t = fs ws t := if_neg h
theorem fs_append : ∀ (a b : List Wd) (t : Int), fs (a ++ b) t = (fs a t).or (fs b t)
  | [], b, t => rfl
  | w :: a, b, t => by
    by_cases h : w.2 ≤ t
    · rw [List.cons_append, fs_pos h, fs_pos h]; rfl
    · rw [List.cons_append, fs_neg h, fs_neg h, fs_append a b t]
theorem fs_none_iff : ∀ {ws : List Wd} {t : Int}, fs ws t = none ↔ ∀ w ∈ ws, t < w.2
  | [], t => by simp [fs]
  | w :: ws, t => by
    by_cases h : w.2 ≤ t
    · rw [fs_pos h]; simp; omega
    · rw [fs_neg h, fs_none_iff]; simp; omega
def gen1 (t : Int) : List Wd → List Wd
  | [] => []
  | w :: ws => if w.2 < t then w :: gen1 w.2 ws else gen1 t ws
def genL : List Wd → List Wd
  | [] => []
  | w :: ws => w :: gen1 w.2 ws
def sqz1 (w : Wd) : List Wd → List Wd
  | [] => [w]
  | v :: r => if w.1 = v.1 then sqz1 v r else w :: sqz1 v r
def sqz : List Wd → List Wd
  | [] => []
  | w :: r => sqz1 w r
def coreL (ws : List Wd) : List Wd := sqz (genL ws)
theorem gen1_sub {t : Int} : ∀ {ws : List Wd} {w : Wd}, w ∈ gen1 t ws → w ∈ ws
  | [], _, h => h
  | v :: ws, w, h => by
    rw [gen1] at h
    split at h
    · rcases List.mem_cons.mp h with rfl | h
      · simp
      · exact List.mem_cons_of_mem _ (gen1_sub h)
    · exact List.mem_cons_of_mem _ (gen1_sub h)
theorem genL_sub : ∀ {ws : List Wd} {w : Wd}, w ∈ genL ws → w ∈ ws
  | [], _, h => h
  | v :: ws, w, h => by
    rcases List.mem_cons.mp h with rfl | h
    · simp
    · exact List.mem_cons_of_mem _ (gen1_sub h)
theorem sqz1_sub : ∀ {r : List Wd} {w v : Wd}, v ∈ sqz1 w r → v ∈ w :: r
  | [], _, _, h => h
  | u :: r, w, v, h => by
    rw [sqz1] at h
    split at h
    · exact List.mem_cons_of_mem _ (sqz1_sub h)
    · rcases List.mem_cons.mp h with rfl | h
      · simp
      · exact List.mem_cons_of_mem _ (sqz1_sub h)
theorem sqz_sub : ∀ {r : List Wd} {v : Wd}, v ∈ sqz r → v ∈ r
  | [], _, h => h
  | _ :: _, _, h => sqz1_sub h
theorem coreL_sub {ws : List Wd} {w : Wd} (h : w ∈ coreL ws) : w ∈ ws := genL_sub (sqz_sub h)
theorem gen1_len {t : Int} : ∀ (ws : List Wd), (gen1 t ws).length ≤ ws.length
  | [] => Nat.le_refl _
  | w :: ws => by
    rw [gen1]; split
    · have := gen1_len (t := w.2) ws; simp; omega
    · have := gen1_len (t := t) ws; simp; omega
termination_by ws => ws.length
theorem genL_len : ∀ (ws : List Wd), (genL ws).length ≤ ws.length
  | [] => Nat.le_refl _
  | w :: ws => by have := gen1_len (t := w.2) ws; show (gen1 w.2 ws).length + 1 ≤ ws.length + 1; omega
theorem sqz1_len : ∀ (r : List Wd) (w : Wd), (sqz1 w r).length ≤ r.length + 1
  | [], _ => by simp [sqz1]
  | v :: r, w => by
    rw [sqz1]; split
    · have := sqz1_len r v; simp; omega
    · have := sqz1_len r v; simp; omega
theorem coreL_len (ws : List Wd) : (coreL ws).length ≤ ws.length := by
  have := genL_len ws
  unfold coreL
  cases h : genL ws with
  | nil => exact Nat.zero_le _
  | cons w r => rw [h] at this; have := sqz1_len r w; show (sqz1 w r).length ≤ _; simp at *; omega
def Fall1 (t : Int) : List Wd → Prop
  | [] => True
  | w :: r => w.2 < t ∧ Fall1 w.2 r
theorem gen1_fall : ∀ (ws : List Wd) (t : Int), Fall1 t (gen1 t ws)
  | [], _ => trivial
  | w :: ws, t => by
    rw [gen1]; split
    · rename_i h; exact ⟨h, gen1_fall ws w.2⟩
    · exact gen1_fall ws t
theorem fs_gen1 : ∀ (ws : List Wd) {t x : Int}, x < t → fs (gen1 t ws) x = fs ws x
  | [], _, _, _ => rfl
  | w :: ws, t, x, h => by
    rw [gen1]
    by_cases q : w.2 < t
    · rw [if_pos q]
      by_cases p : w.2 ≤ x
      · rw [fs_pos p, fs_pos p]
      · rw [fs_neg p, fs_neg p]; exact fs_gen1 ws (by omega)
    · rw [if_neg q, fs_neg (by omega)]; exact fs_gen1 ws h
theorem fs_genL (ws : List Wd) (x : Int) : fs (genL ws) x = fs ws x := by
  cases ws with
  | nil => rfl
  | cons w ws =>
    show fs (w :: gen1 w.2 ws) x = fs (w :: ws) x
    by_cases p : w.2 ≤ x
    · rw [fs_pos p, fs_pos p]
    · rw [fs_neg p, fs_neg p]; exact fs_gen1 ws (by omega)
theorem fs_sqz1 : ∀ (r : List Wd) (w : Wd) (x : Int), Fall1 w.2 r → fs (sqz1 w r) x = fs (w :: r) x
  | [], _, _, _ => rfl
  | v :: r, w, x, h => by
    rw [sqz1]
    by_cases e : w.1 = v.1
    · rw [if_pos e, fs_sqz1 r v x h.2]
      by_cases p : w.2 ≤ x
      · rw [fs_pos p, fs_pos (by have := h.1; omega), e]
      · rw [fs_neg p]
    · rw [if_neg e]
      by_cases p : w.2 ≤ x
      · rw [fs_pos p, fs_pos p]
      · rw [fs_neg p, fs_neg p, fs_sqz1 r v x h.2]
theorem genL_fall (ws : List Wd) : ∀ w r, genL ws = w :: r → Fall1 w.2 r := by
  intro w r h
  cases ws with
  | nil => cases h
  | cons v ws => cases h; exact gen1_fall ws _
theorem fs_core (ws : List Wd) (x : Int) : fs (coreL ws) x = fs ws x := by
  rw [← fs_genL ws x]
  unfold coreL
  cases h : genL ws with
  | nil => rfl
  | cons w r => exact fs_sqz1 r w x (genL_fall ws w r h)
/-! the form of a core -/
def Cor1 (w : Wd) : List Wd → Prop
  | [] => True
  | v :: r => v.2 < w.2 ∧ v.1 ≠ w.1 ∧ Cor1 v r
def Cor : List Wd → Prop
  | [] => True
  | w :: r => Cor1 w r
theorem sqz1_cor : ∀ (r : List Wd) (w : Wd), Fall1 w.2 r → ∃ u q, sqz1 w r = u :: q ∧ u.1 = w.1 ∧ u.2 ≤ w.2 ∧ Cor1 u q
  | [], w, _ => ⟨w, [], rfl, rfl, Int.le_refl _, trivial⟩
  | v :: r, w, h => by
    obtain ⟨u, q, e1, e2, e3, e4⟩ := sqz1_cor r v h.2
    have := h.1
    rw [sqz1]
    by_cases e : w.1 = v.1
    · rw [if_pos e]; exact ⟨u, q, e1, by rw [e2, e], by omega, e4⟩
    · rw [if_neg e, e1]
      exact ⟨w, u :: q, rfl, rfl, Int.le_refl _, by omega, fun z => e (by rw [← z, e2]), e4⟩
theorem coreL_cor (ws : List Wd) : Cor (coreL ws) := by
  unfold coreL
  cases h : genL ws with
  | nil => trivial
  | cons w r =>
    obtain ⟨u, q, e1, _, _, e4⟩ := sqz1_cor r w (genL_fall ws w r h)
    show Cor (sqz1 w r)
    rw [e1]; exact e4
theorem Cor1.tail {w : Wd} : ∀ {r : List Wd}, Cor1 w r → Cor r
  | [], _ => trivial
  | _ :: _, h => h.2.2
theorem fs_low {w : Wd} {r : List Wd} {x : Int} (h : Cor1 w r) (hx : w.2 - 1 ≤ x) : fs r x = fs r (w.2 - 1) := by
  cases r with
  | nil => rfl
  | cons v r => have := h.1; rw [fs_pos (by omega), fs_pos (by omega)]
theorem cor_uniq : ∀ {a b : List Wd}, Cor a → Cor b → (∀ x, fs a x = fs b x) → a = b
  | [], [], _, _, _ => rfl
  | [], v :: q, _, _, h => by have := h v.2; rw [fs_pos (Int.le_refl _)] at this; cases this
  | w :: r, [], _, _, h => by have := h w.2; rw [fs_pos (Int.le_refl _)] at this; cases this
  | w :: r, v :: q, ha, hb, h => by
    have e1 : w.1 = v.1 := by
      have := h (max w.2 v.2)
      rw [fs_pos (by omega), fs_pos (by omega)] at this
      exact Option.some.inj this
    have low : ∀ {w v : Wd} {r q : List Wd}, Cor1 v q → w.1 = v.1 → (∀ x, fs (w :: r) x = fs (v :: q) x) → ¬ w.2 < v.2 := by
      intro w v r q hq e h g
      have := h (v.2 - 1)
      rw [fs_pos (by omega), fs_neg (by omega)] at this
      cases q with
      | nil => cases this
      | cons u q =>
        have h1 := hq.1
        rw [fs_pos (by omega)] at this
        exact hq.2.1 (by rw [← e]; exact (Option.some.inj this).symm)
    have e2 : w.2 = v.2 := by
      have h1 := low hb e1 h
      have h2 := low (r := q) ha e1.symm fun x => (h x).symm
      omega
    have e : w = v := Prod.ext e1 e2
    subst e
    have hr : ∀ x, fs r x = fs q x := fun x => by
      by_cases hx : x < w.2
      · have := h x
        rw [fs_neg (by omega), fs_neg (by omega)] at this
        exact this
      · have := h (w.2 - 1)
        rw [fs_neg (by omega), fs_neg (by omega)] at this
        rw [fs_low (w := w) ha (by omega), fs_low (w := w) hb (by omega), this]
    rw [cor_uniq (Cor1.tail ha) (Cor1.tail hb) hr]
theorem core_eq {a b : List Wd} : coreL a = coreL b ↔ ∀ x, fs a x = fs b x :=
  ⟨fun h x => by rw [← fs_core a, ← fs_core b, h], fun h => cor_uniq (coreL_cor a) (coreL_cor b) fun x => by rw [fs_core, fs_core, h x]⟩
theorem core_self {a : List Wd} : coreL a = a ↔ Cor a := ⟨fun h => by rw [← h]; exact coreL_cor a, fun h => cor_uniq (coreL_cor a) h fun x => fs_core a x⟩
theorem core_core (a : List Wd) : coreL (coreL a) = coreL a := core_self.mpr (coreL_cor a)
theorem core_eq0 {a b : List Wd} (ha : ∀ w ∈ a, 0 ≤ w.2) (hb : ∀ w ∈ b, 0 ≤ w.2) : coreL a = coreL b ↔ ∀ x, 0 ≤ x → fs a x = fs b x := by
  rw [core_eq]
  refine ⟨fun h x _ => h x, fun h x => ?_⟩
  by_cases hx : 0 ≤ x
  · exact h x hx
  · rw [fs_none_iff.mpr fun w hw => by have := ha w hw; omega, fs_none_iff.mpr fun w hw => by have := hb w hw; omega]
/-! a core does what its almanac does -/
theorem behind_gen1 : ∀ {ws : List Wd} {t : Int} {l : List Int}, (∀ w ∈ ws, 0 ≤ w.2) → Gentle t l → behindL l (gen1 t ws) = behindL l ws
  | [], _, _, _, _ => rfl
  | w :: ws, t, l, hw, hg => by
    have hw0 := hw w (by simp)
    have hws : ∀ v ∈ ws, 0 ≤ v.2 := fun v hv => hw v (by simp [hv])
    rw [gen1]
    by_cases h : w.2 < t
    · rw [if_pos h]
      show behindL (blW l w) (gen1 w.2 ws) = behindL (blW l w) ws
      exact behind_gen1 hws (blown_gentle (c := w.1) hw0 l)
    · rw [if_neg h]
      have e : blW l w = l := (blown_idle (c := w.1) hw0).mpr (hg.mono (by omega))
      show behindL l (gen1 t ws) = behindL (blW l w) ws
      rw [e]; exact behind_gen1 hws hg
theorem behind_sqz1 : ∀ {r : List Wd} {w : Wd} {l : List Int}, (∀ v ∈ w :: r, 0 ≤ v.2) → Fall1 w.2 r → behindL l (sqz1 w r) = behindL l (w :: r)
  | [], _, _, _, _ => rfl
  | v :: r, w, l, hw, hf => by
    have ih := fun l => behind_sqz1 (r := r) (w := v) (l := l) (fun u hu => hw u (by simp at hu ⊢; right; exact hu)) hf.2
    rw [sqz1]
    by_cases e : w.1 = v.1
    · rw [if_pos e, ih]
      show behindL (blW l v) r = behindL (blW (blW l w) v) r
      congr 1
      have := blown_twice (c := v.1) (hw w (by simp)) (hw v (by simp)) l
      have h2 := hf.1
      rw [show min w.2 v.2 = v.2 by omega] at this
      show blownL v.1 v.2 l = blownL v.1 v.2 (blownL w.1 w.2 l)
      rw [e, this]
    · rw [if_neg e]
      show behindL (blW l w) (sqz1 v r) = behindL (blW l w) (v :: r)
      exact ih _
theorem behind_core {ws : List Wd} (hw : ∀ w ∈ ws, 0 ≤ w.2) (l : List Int) : behindL l (coreL ws) = behindL l ws := by
  unfold coreL
  cases ws with
  | nil => rfl
  | cons w ws =>
    show behindL l (sqz1 w (gen1 w.2 ws)) = _
    rw [behind_sqz1 (fun v hv => ?_) (gen1_fall ws w.2)]
    · show behindL (blW l w) (gen1 w.2 ws) = behindL (blW l w) ws
      exact behind_gen1 (fun v hv => hw v (by simp [hv])) (blown_gentle (c := w.1) (hw w (by simp)) l)
    · rcases List.mem_cons.mp hv with rfl | hv
      · exact hw _ (by simp)
      · exact hw v (List.mem_cons_of_mem _ (gen1_sub hv))
/-! steps of two posts -/
def cnt (b : Bool) (ws : List Wd) : Nat → Nat
  | 0 => 0
  | h + 1 => cnt b ws h + if fs ws (h : Int) = some b then 1 else 0
theorem cnt_cons (b : Bool) (c : Bool) (s : Nat) (ws : List Wd) : ∀ h : Nat, cnt b ((c, (s : Int)) :: ws) h = cnt b ws (min s h) + if c = b then h - min s h else 0
  | 0 => by simp [cnt]
  | h + 1 => by
    rw [cnt, cnt_cons b c s ws h]
    by_cases q : s ≤ h
    · rw [fs_pos (show ((c, (s : Int)) : Wd).2 ≤ (h : Int) by show (s : Int) ≤ h; omega), show min s h = s by omega, show min s (h + 1) = s by omega]
      show _ + (if some c = some b then 1 else 0) = _
      by_cases e : c = b
      · rw [if_pos e, if_pos e, if_pos (by rw [e])]; omega
      · rw [if_neg e, if_neg e, if_neg (fun z => e (Option.some.inj z))]
    · rw [fs_neg (show ¬ ((c, (s : Int)) : Wd).2 ≤ (h : Int) by show ¬ (s : Int) ≤ h; omega), show min s h = h by omega, show min s (h + 1) = h + 1 by omega, cnt]
      simp
theorem blown_step {c : Bool} {s h : Int} (hs : 0 ≤ s) (hh : 0 ≤ h) (a : Int) : blownL c s [a, a + h] = if c = true then [a, a + min s h] else [a + (h - min s h), a + h] := by
  have g0 : Gentle h [a, a + h] := by
    refine ⟨⟨by show a + h ≤ a + h; omega, trivial⟩, ⟨by show a ≤ a + h + h; omega, trivial⟩⟩
  by_cases q : s ≤ h
  · have e : [a, a + h] = [0, h].map fun x => x + a := by show _ = [0 + a, h + a]; rw [Int.zero_add, Int.add_comm h a]
    cases c with
    | true =>
      show cutTo s [a, a + h] = [a, a + min s h]
      rw [e, cutTo_shift hs, show min s h = s by omega]
      have := cut_step hs q
      rw [this]
      show [0 + a, s + a] = _
      rw [Int.zero_add, Int.add_comm s a]
    | false =>
      show fillTo s [a, a + h] = [a + (h - min s h), a + h]
      rw [e, fillTo_shift hs, show min s h = s by omega]
      have := fill_step hs q
      rw [this]
      show [h - s + a, h + a] = _
      rw [Int.add_comm (h - s) a, Int.add_comm h a]
  · rw [(blown_idle (c := c) hs).mpr (g0.mono (by omega)), show min s h = h by omega]
    cases c with
    | true => rfl
    | false => show [a, a + h] = [a + (h - h), a + h]; rw [Int.sub_self, Int.add_zero]
theorem cnt_nil (b : Bool) : ∀ h : Nat, cnt b [] h = 0
  | 0 => rfl
  | h + 1 => by rw [cnt, cnt_nil b h]; rfl
theorem cnt_le : ∀ (ws : List Wd) (h : Nat), cnt true ws h + cnt false ws h ≤ h
  | _, 0 => Nat.le_refl _
  | ws, h + 1 => by
    have := cnt_le ws h
    rw [cnt, cnt]
    cases q : fs ws (h : Int) with
    | none => simp; omega
    | some b => cases b <;> simp <;> omega
theorem behind_step : ∀ {ws : List Wd}, (∀ w ∈ ws, 0 ≤ w.2) → ∀ (h : Nat) (a : Int), behindL [a, a + (h : Int)] ws = [a + (cnt false ws h : Int), a + (h : Int) - (cnt true ws h : Int)]
  | [], _, h, a => by rw [cnt_nil, cnt_nil]; show [a, a + (h : Int)] = [a + 0, a + (h : Int) - 0]; rw [Int.add_zero, Int.sub_zero]
  | (c, s) :: ws, hw, h, a => by
    have hs : 0 ≤ s := hw (c, s) (by simp)
    obtain ⟨n, rfl⟩ := Int.eq_ofNat_of_zero_le hs
    have ih := fun h a => behind_step (ws := ws) (fun v hv => hw v (by simp [hv])) h a
    show behindL (blownL c n [a, a + (h : Int)]) ws = _
    rw [blown_step hs (by omega), cnt_cons, cnt_cons, show min ((n : Nat) : Int) (h : Int) = ((min n h : Nat) : Int) by omega]
    have h1 : min n h ≤ h := Nat.min_le_right _ _
    cases c with
    | true =>
      rw [if_pos rfl, ih, if_neg (by decide), if_pos rfl]
      congr 1
      congr 1
      omega
    | false =>
      rw [if_neg (by decide), if_pos rfl, if_neg (by decide)]
      have := ih (min n h) (a + ((h : Int) - ((min n h : Nat) : Int)))
      rw [show a + ((h : Int) - ((min n h : Nat) : Int)) + ((min n h : Nat) : Int) = a + (h : Int) by omega] at this
      rw [this]
      congr 1
      · omega
/-! the least step that parts -/
theorem fs_same : ∀ {ws : List Wd} {s t : Int}, s ≤ t → (∀ w ∈ ws, w.2 ≤ t → w.2 ≤ s) → fs ws t = fs ws s
  | [], _, _, _, _ => rfl
  | w :: ws, s, t, h, g => by
    by_cases q : w.2 ≤ t
    · rw [fs_pos q, fs_pos (g w (by simp) q)]
    · rw [fs_neg q, fs_neg (by omega)]; exact fs_same h fun v hv => g v (by simp [hv])
def slL (ws : List Wd) : List Int := ws.map (·.2)
def parts (a b : List Wd) : List Int := (slL (a ++ b)).filter fun s => !(decide (fs a s = fs b s))
theorem mem_parts {a b : List Wd} {s : Int} : s ∈ parts a b ↔ s ∈ slL (a ++ b) ∧ fs a s ≠ fs b s := by simp [parts]
theorem slL_mem {ws : List Wd} {s : Int} : s ∈ slL ws ↔ ∃ w ∈ ws, w.2 = s := by simp [slL]
/-- where they shift by unlike words, a slope of theirs is as gentle, at which they do so, too -/
theorem part_below {a b : List Wd} {t : Int} (h : fs a t ≠ fs b t) : ∃ s ∈ parts a b, s ≤ t := by
  have hne : ((slL (a ++ b)).filter fun s => decide (s ≤ t)) ≠ [] := by
    intro e
    have hall : ∀ w ∈ a ++ b, t < w.2 := fun w hw => by
      have : w.2 ∉ (slL (a ++ b)).filter fun s => decide (s ≤ t) := by rw [e]; simp
      rw [List.mem_filter] at this
      have hm : w.2 ∈ slL (a ++ b) := slL_mem.mpr ⟨w, hw, rfl⟩
      simp [hm] at this
      omega
    apply h
    rw [fs_none_iff.mpr fun w hw => hall w (List.mem_append_left _ hw), fs_none_iff.mpr fun w hw => hall w (List.mem_append_right _ hw)]
  have hm : maxOf ((slL (a ++ b)).filter fun s => decide (s ≤ t)) ∈ (slL (a ++ b)).filter fun s => decide (s ≤ t) := by
    cases q : (slL (a ++ b)).filter fun s => decide (s ≤ t) with
    | nil => exact absurd q hne
    | cons x r => exact foldl_max_mem
  obtain ⟨h1, h2⟩ := List.mem_filter.mp hm
  have h2 : maxOf ((slL (a ++ b)).filter fun s => decide (s ≤ t)) ≤ t := of_decide_eq_true h2
  have key : ∀ w ∈ a ++ b, w.2 ≤ t → w.2 ≤ maxOf ((slL (a ++ b)).filter fun s => decide (s ≤ t)) := fun w hw hwt =>
    le_maxOf (List.mem_filter.mpr ⟨slL_mem.mpr ⟨w, hw, rfl⟩, decide_eq_true hwt⟩)
  refine ⟨_, mem_parts.mpr ⟨h1, ?_⟩, h2⟩
  rw [← fs_same h2 fun w hw => key w (List.mem_append_left _ hw), ← fs_same h2 fun w hw => key w (List.mem_append_right _ hw)]
  exact h
def partL (a b : List Wd) : Option Int := match parts a b with
  | [] => none
  | x :: r => some (minOf (x :: r) + 1)
theorem part_none {a b : List Wd} : partL a b = none ↔ coreL a = coreL b := by
  rw [core_eq]
  unfold partL
  cases h : parts a b with
  | nil =>
    refine ⟨fun _ x => ?_, fun _ => rfl⟩
    apply Classical.byContradiction
    intro q
    obtain ⟨s, hs, _⟩ := part_below q
    rw [h] at hs; simp at hs
  | cons x r =>
    refine ⟨fun z => by simp at z, fun z => ?_⟩
    have : x ∈ parts a b := by rw [h]; simp
    exact absurd (z x) (mem_parts.mp this).2
theorem part_some {a b : List Wd} {n : Int} (h : partL a b = some n) : (n - 1) ∈ parts a b ∧ ∀ t, fs a t ≠ fs b t → n - 1 ≤ t := by
  unfold partL at h
  cases q : parts a b with
  | nil => rw [q] at h; cases h
  | cons x r =>
    rw [q] at h
    have h : minOf (x :: r) + 1 = n := Option.some.inj h
    have e : n - 1 = minOf (x :: r) := by omega
    rw [e]
    refine ⟨minOf_mem (by simp), fun t ht => ?_⟩
    obtain ⟨s, hs, hst⟩ := part_below ht
    rw [q] at hs
    have := minOf_le hs
    omega
theorem cnt_same {a b : List Wd} {c : Bool} : ∀ {h : Nat}, (∀ t : Nat, t < h → fs a (t : Int) = fs b (t : Int)) → cnt c a h = cnt c b h
  | 0, _ => rfl
  | h + 1, g => by rw [cnt, cnt, cnt_same fun t ht => g t (by omega), g h (by omega)]
theorem cnt_part {a b : List Wd} {h : Nat} (g : ∀ t : Nat, t < h → fs a (t : Int) = fs b (t : Int)) (q : fs a (h : Int) ≠ fs b (h : Int)) : ∃ c, cnt c a (h + 1) ≠ cnt c b (h + 1) := by
  cases e : fs a (h : Int) with
  | some c =>
    refine ⟨c, ?_⟩
    rw [cnt, cnt, cnt_same g, e, if_pos rfl, if_neg (fun z => q (by rw [e, z]))]; omega
  | none =>
    cases e2 : fs b (h : Int) with
    | none => exact absurd (by rw [e, e2]) q
    | some c =>
      refine ⟨c, ?_⟩
      rw [cnt, cnt, cnt_same g, e, e2, if_neg (by simp), if_pos rfl]; omega
def stL2 (ws : List Wd) (h : Int) : List Int := behindL [0, h] ws
theorem step_nat {ws : List Wd} (hw : ∀ w ∈ ws, 0 ≤ w.2) (h : Nat) : stL2 ws (h : Int) = [(cnt false ws h : Int), (h : Int) - (cnt true ws h : Int)] := by
  have := behind_step hw h 0
  rw [Int.zero_add, Int.zero_add] at this
  exact this
/-- alike up to there -/
theorem step_same {a b : List Wd} (ha : ∀ w ∈ a, 0 ≤ w.2) (hb : ∀ w ∈ b, 0 ≤ w.2) {h : Nat} (g : ∀ t : Nat, t < h → fs a (t : Int) = fs b (t : Int)) : stL2 a (h : Int) = stL2 b (h : Int) := by
  rw [step_nat ha, step_nat hb, cnt_same g, cnt_same g]
theorem step_part {a b : List Wd} (ha : ∀ w ∈ a, 0 ≤ w.2) (hb : ∀ w ∈ b, 0 ≤ w.2) {h : Nat} (g : ∀ t : Nat, t < h → fs a (t : Int) = fs b (t : Int)) (q : fs a (h : Int) ≠ fs b (h : Int)) : stL2 a ((h + 1 : Nat) : Int) ≠ stL2 b ((h + 1 : Nat) : Int) := by
  obtain ⟨c, hc⟩ := cnt_part g q
  rw [step_nat ha, step_nat hb]
  intro e
  simp only [List.cons.injEq, and_true] at e
  apply hc
  cases c with
  | true => omega
  | false => omega
theorem part_steps {a b : List Wd} (ha : ∀ w ∈ a, 0 ≤ w.2) (hb : ∀ w ∈ b, 0 ≤ w.2) {n : Int} (h : partL a b = some n) : 1 ≤ n ∧ stL2 a n ≠ stL2 b n ∧ ∀ m, 0 ≤ m → m < n → stL2 a m = stL2 b m := by
  obtain ⟨h1, h2⟩ := part_some h
  obtain ⟨h3, h4⟩ := mem_parts.mp h1
  obtain ⟨w, hw, e⟩ := slL_mem.mp h3
  have hw0 : 0 ≤ w.2 := by
    rcases List.mem_append.mp hw with q | q
    · exact ha w q
    · exact hb w q
  have hn : 0 ≤ n - 1 := by omega
  obtain ⟨k, hk⟩ := Int.eq_ofNat_of_zero_le hn
  have low : ∀ t : Nat, t < k → fs a (t : Int) = fs b (t : Int) := fun t ht => by
    apply Classical.byContradiction
    intro q
    have := h2 _ q
    omega
  refine ⟨by omega, ?_, fun m hm0 hm => ?_⟩
  · rw [show n = ((k + 1 : Nat) : Int) by omega]
    exact step_part ha hb low (by rw [← hk]; exact h4)
  · obtain ⟨j, rfl⟩ := Int.eq_ofNat_of_zero_le hm0
    exact step_same ha hb fun t ht => low t (by omega)
theorem core_steps {a b : List Wd} (ha : ∀ w ∈ a, 0 ≤ w.2) (hb : ∀ w ∈ b, 0 ≤ w.2) (h : coreL a = coreL b) (l : List Int) : behindL l a = behindL l b := by
  rw [← behind_core ha, ← behind_core hb, h]
end Pl
namespace Pl
open PySem PySem.Spec PyProof.Rows L2
/-! ### cores: contracts -/
/-- an almanac handed in: a list or a tuple, its winds pairs or lists -/
def AmW (a : D) (ws : List Wd) : Prop := ∃ ps : List (D × Wd), (a = .lst (ps.map Prod.fst) ∨ a = .tup (ps.map Prod.fst)) ∧ (∀ p ∈ ps, Wn p.1 p.2.1 p.2.2) ∧ ps.map Prod.snd = ws
theorem Am.w {a : D} {ws : List Wd} (h : Am a ws) : AmW a ws := by
  refine ⟨ws.map fun w => (windD w.1 w.2, w), ?_, fun p hp => ?_, by rw [List.map_map]; exact List.map_id' ws⟩
  · rcases h with rfl | rfl
    · exact .inl (by rw [List.map_map]; rfl)
    · exact .inr (by rw [List.map_map]; rfl)
  · obtain ⟨w, _, rfl⟩ := List.mem_map.mp hp
    exact .inl rfl
theorem AmW.lst (ws : List Wd) : AmW (.lst (windsD ws)) ws := Am.w (.inl rfl)
theorem windsD_snoc (a : List Wd) (w : Wd) : windsD a ++ [windD w.1 w.2] = windsD (a ++ [w]) := by unfold windsD; rw [List.map_append]; rfl
theorem eqv_wind (w v : Wd) : PyData.eqv (toPy (windD w.1 w.2)) (toPy (windD v.1 v.2)) = decide (w = v) := by
  show ((D.str (wordS w.1)).eqv (.str (wordS v.1)) && ((w.2 == v.2) && true)) = _
  rw [eqv_word]
  obtain ⟨a, s⟩ := w
  obtain ⟨b, t⟩ := v
  by_cases h1 : a = b <;> by_cases h2 : s = t <;> simp [h1, h2]
theorem eqvAll_winds : ∀ a b : List Wd, PyData.eqvAll (toPys (windsD a)) (toPys (windsD b)) = decide (a = b)
  | [], [] => rfl
  | [], _ :: _ => rfl
  | _ :: _, [] => rfl
  | w :: a, v :: b => by
    show (PyData.eqv (toPy (windD w.1 w.2)) (toPy (windD v.1 v.2)) && PyData.eqvAll (toPys (windsD a)) (toPys (windsD b))) = _
    rw [eqvAll_winds a b, eqv_wind]
    by_cases h : w = v <;> simp [h]
theorem eqv_winds (a b : List Wd) : (D.lst (windsD a)).eqv (.lst (windsD b)) = decide (a = b) := eqvAll_winds a b
theorem sh_nil' : (D.lst []).sh := sh_nil
def g_gentler_ones : FA := fun ds C => ∃ a ws, ds = [a] ∧ AmW a ws ∧ ws.length ≤ 900 ∧ ∀ p, C (.own p (windsD (genL ws)))
theorem rd_gentler_ones : ∀ ds C, ds.length = 1 → g_gentler_ones ds C → T_gentler_ones (EA C) (startA N_gentler_ones ds) := by
  rintro ds C - ⟨a, ws, rfl, ⟨ps, ha, hp, rfl⟩, hl, hC⟩
  rw [List.length_map] at hl
  refine ⟨Nat.zero_le _, fun b => ?_⟩
  have body : ∀ a', forW (hTup 2 (hCons (hName 2) (hCons (hName 3) hNil))) (pIfS (pOr (pTest (pPeek (pOp fEq (pVar 1) (pLst pNil)))) (pTest (pOp fLt (pVar 3) (pOp fIx (pIxO 1 (pUn fNeg (pC (.int 1)))) (pC (.int 1)))))) (pAppend 1 (pTup (pCons (pVar 2) (pCons (pVar 3) pNil)))) pNext) { nx := pRet (pMove 1) (EA C), rt := (EA C).rt } (ps.map Prod.fst) [some (.val a'), some (.own b []), none, none] := by
    intro a'
    refine fr_mp ps Prod.fst (fun r ρ => (∀ p ∈ r, Wn p.1 p.2.1 p.2.2) ∧ ∃ (acc : List Wd) (w2 w3 : Option Cell), acc.length + r.length ≤ 900 ∧ ((acc = [] ∧ genL (ps.map Prod.snd) = genL (r.map Prod.snd)) ∨ ∃ ini w, acc = ini ++ [w] ∧ genL (ps.map Prod.snd) = acc ++ gen1 w.2 (r.map Prod.snd)) ∧ ρ = [some (.val a'), some (.own b (windsD acc)), w2, w3]) rfl ⟨hp, [], none, none, by simpa using hl, .inl ⟨rfl, rfl⟩, rfl⟩ (fun p r ρ K hI hK => ?_) (fun ρ hI => ?_)
    · obtain ⟨hr, acc, w2, w3, hlen, hg, rfl⟩ := hI
      obtain ⟨d, v⟩ := p
      have hlen' : acc.length + (r.length + 1) ≤ 900 := hlen
      have hr' : ∀ p ∈ r, Wn p.1 p.2.1 p.2.2 := fun p hp => hr p (by simp [hp])
      have hw : Wn d v.1 v.2 := hr (d, v) (by simp)
      have app : (acc = [] ∧ genL (ps.map Prod.snd) = genL (v :: r.map Prod.snd)) ∨ (∃ ini w, acc = ini ++ [w] ∧ genL (ps.map Prod.snd) = acc ++ gen1 w.2 (v :: r.map Prod.snd) ∧ v.2 < w.2) → K [some (.val a'), some (.own b (windsD acc ++ [windD v.1 v.2])), some (.val (.str (wordS v.1))), some (.val (.int v.2))] := fun h => by
        rw [windsD_snoc]
        refine hK _ ⟨hr', acc ++ [v], _, _, by simp; omega, .inr ⟨acc, v, rfl, ?_⟩, rfl⟩
        rcases h with ⟨rfl, e⟩ | ⟨ini, w, e1, e2, h⟩
        · rw [e]; rfl
        · rw [e2, gen1, if_pos h, List.append_assoc]; rfl
      have sz : (windsD acc).length < sizeLine := small1000 (by rw [windsD_len]; omega)
      have two : (2 : Nat) ≤ sizeLine := by decide
      have main : hCons (hName 2) (hCons (hName 3) hNil) [.str (wordS v.1), .int v.2] [some (.val a'), some (.own b (windsD acc)), w2, w3] (fun ρ1 => pIfS (pOr (pTest (pPeek (pOp fEq (pVar 1) (pLst pNil)))) (pTest (pOp fLt (pVar 3) (pOp fIx (pIxO 1 (pUn fNeg (pC (.int 1)))) (pC (.int 1)))))) (pAppend 1 (pTup (pCons (pVar 2) (pCons (pVar 3) pNil)))) pNext { nx := K, rt := (EA C).rt, bk := pRet (pMove 1) (EA C), ct := K } ρ1) := by
        refine ⟨rfl, Nat.zero_le _, sh_winds _, sh_nil', ?_⟩
        rw [eqv_nil]
        rcases hg with ⟨rfl, e⟩ | ⟨ini, w, rfl, e⟩
        · refine ifT (by simp) ⟨two, _, rfl, sz, app (.inl ⟨rfl, e⟩)⟩
        · refine ifF (by simp) ⟨_, _, windD w.1 w.2, rfl, rfl, by rw [← windsD_snoc]; exact atI_last _ _, _, rfl, ?_⟩
          refine ifB (fun q => ⟨two, _, rfl, sz, app (.inr ⟨ini, w, rfl, e, dT q⟩)⟩) (fun q => ?_)
          refine hK _ ⟨hr', ini ++ [w], _, _, by omega, .inr ⟨ini, w, rfl, ?_⟩, rfl⟩
          rw [e, List.map_cons, gen1, if_neg (dF q)]
      rcases hw with e | e
      · have e : d = windD v.1 v.2 := e
        subst e
        exact ⟨rfl, main⟩
      · have e : d = .lst [.str (wordS v.1), .int v.2] := e
        subst e
        exact ⟨rfl, main⟩
    · obtain ⟨hr, acc, w2, w3, hlen, hg, rfl⟩ := hI
      have : acc = genL (ps.map Prod.snd) := by
        rcases hg with ⟨rfl, e⟩ | ⟨ini, w, rfl, e⟩
        · rw [e]; rfl
        · rw [e]; simp [gen1]
      rw [this]
      exact hC b
  rcases ha with rfl | rfl
  · exact body _
  · exact body _
def g_core : FA := fun ds C => ∃ a ws, ds = [a] ∧ AmW a ws ∧ ws.length ≤ 900 ∧ ∀ p, C (.own p (windsD (coreL ws)))
theorem rd_core : ∀ ds C, ds.length = 1 → g_core ds C → T_core g_gentler_ones (EA C) (startA N_core ds) := by
  rintro ds C - ⟨a, ws, rfl, ha, hl, hC⟩
  refine ⟨Nat.zero_le _, fun b => ⟨rfl, a, ws, rfl, ha, hl, fun p => ?_⟩⟩
  have hgl := genL_len ws
  refine fr_mp (genL ws) (fun w => windD w.1 w.2) (fun r ρ => ∃ (acc : List Wd) (w2 : Option Cell), acc.length + r.length ≤ 900 ∧ ((acc = [] ∧ coreL ws = sqz r) ∨ ∃ ini w, acc = ini ++ [w] ∧ coreL ws = ini ++ sqz1 w r) ∧ ρ = [some (.val a), some (.own b (windsD acc)), w2]) rfl ⟨[], none, by simp; omega, .inl ⟨rfl, rfl⟩, rfl⟩ (fun v r ρ K hI hK => ?_) (fun ρ hI => ?_)
  · obtain ⟨acc, w2, hlen, hg, rfl⟩ := hI
    have hlen' : acc.length + (r.length + 1) ≤ 900 := hlen
    refine ⟨Nat.zero_le _, sh_winds _, sh_nil', ?_⟩
    show if (!(D.lst (windsD acc)).eqv (.lst [])) = true then _ else _
    rw [eqv_nil]
    rcases hg with ⟨rfl, e⟩ | ⟨ini, w, rfl, e⟩
    · refine ifF (by simp) ⟨_, rfl, by show (0 : Nat) < sizeLine; decide, ?_⟩
      exact hK _ ⟨[v], _, by simp; omega, .inr ⟨[], v, rfl, e⟩, rfl⟩
    · refine ifT (by simp) ⟨_, _, windD w.1 w.2, rfl, rfl, by rw [← windsD_snoc]; exact atI_last _ _, _, rfl, _, rfl, sh_word _, sh_word _, ?_⟩
      rw [eqv_word]
      have hlen2 : ini.length + 1 + (r.length + 1) ≤ 900 := by rw [List.length_append, List.length_singleton] at hlen'; exact hlen'
      by_cases q : w.1 = v.1
      · refine ifT (by rw [q]; simp) ⟨windD w.1 w.2, ?_, ?_⟩
        · rw [windsD_len, List.length_append, List.length_singleton, Nat.add_sub_cancel]
          unfold windsD
          rw [List.getElem?_map, List.getElem?_append_right (Nat.le_refl _), Nat.sub_self]; rfl
        · have ed : (windsD (ini ++ [w])).dropLast = windsD ini := by unfold windsD; rw [List.map_append, List.map_singleton, List.dropLast_concat]
          refine ⟨windsD ini, by show some (some (Cell.own b (windsD (ini ++ [w])).dropLast)) = _; rw [ed], small1000 (by rw [windsD_len]; omega), ?_⟩
          have : K [some (.val a), some (.own b (windsD ini ++ [windD v.1 v.2])), some (.val (windD v.1 v.2))] := by
            rw [windsD_snoc]
            exact hK _ ⟨ini ++ [v], _, by simp; omega, .inr ⟨ini, v, rfl, by rw [e, sqz1, if_pos q]⟩, rfl⟩
          exact this
      · refine ifF (by cases h : w.1 <;> cases h2 : v.1 <;> simp_all) ⟨_, rfl, small1000 (by rw [windsD_len]; simp; omega), ?_⟩
        have : K [some (.val a), some (.own b (windsD (ini ++ [w]) ++ [windD v.1 v.2])), some (.val (windD v.1 v.2))] := by
          rw [windsD_snoc]
          exact hK _ ⟨(ini ++ [w]) ++ [v], _, by simp; omega, .inr ⟨ini ++ [w], v, rfl, by rw [e, sqz1, if_neg q, List.append_assoc]; rfl⟩, rfl⟩
        exact this
  · obtain ⟨acc, w2, hlen, hg, rfl⟩ := hI
    have : acc = coreL ws := by
      rcases hg with ⟨rfl, e⟩ | ⟨ini, w, rfl, e⟩
      · rw [e]; rfl
      · rw [e]; rfl
    rw [this]
    exact hC b
def g_alike : FA := fun ds C => ∃ a ws b vs, ds = [a, b] ∧ AmW a ws ∧ AmW b vs ∧ ws.length ≤ 900 ∧ vs.length ≤ 900 ∧ C (.val (.bl (decide (coreL ws = coreL vs))))
theorem rd_alike : ∀ ds C, ds.length = 2 → g_alike ds C → T_alike g_core (EA C) (startA N_alike ds) := by
  rintro ds C - ⟨a, ws, b, vs, rfl, ha, hb, hl, hl2, hC⟩
  refine ⟨rfl, a, ws, rfl, ha, hl, fun p => ⟨rfl, b, vs, rfl, hb, hl2, fun q => ⟨sh_winds _, sh_winds _, ?_⟩⟩⟩
  show C (.val (.bl ((D.lst (windsD (coreL ws))).eqv (.lst (windsD (coreL vs))))))
  rw [eqv_winds]; exact hC
def optW : Option Bool → D
  | none => .non
  | some b => .str (wordS b)
theorem sh_optW (o : Option Bool) : (optW o).sh := by
  cases o with
  | none => unfold D.sh; decide +kernel
  | some b => exact sh_word b
theorem eqv_optW (o p : Option Bool) : (optW o).eqv (optW p) = decide (o = p) := by
  cases o with
  | none => cases p with
    | none => rfl
    | some b => cases b <;> decide +kernel
  | some a => cases p with
    | none => cases a <;> decide +kernel
    | some b => cases a <;> cases b <;> decide +kernel
def g_first_to_shift : FA := fun ds C => ∃ a ws t, ds = [a, .int t] ∧ AmW a ws ∧ C (.val (optW (fs ws t)))
theorem rd_first_to_shift : ∀ ds C, ds.length = 2 → g_first_to_shift ds C → T_first_to_shift (EA C) (startA N_first_to_shift ds) := by
  rintro ds C - ⟨a, ws, t, rfl, ⟨ps, ha, hp, rfl⟩, hC⟩
  have body : ∀ a', forW (hTup 2 (hCons (hName 2) (hCons (hName 3) hNil))) (pIfS (pTest (pOp fLe (pVar 3) (pVar 1))) (pRet (pMove 2)) pNext) { nx := pRet (pVal (pC .non)) (EA C), rt := (EA C).rt } (ps.map Prod.fst) [some (.val a'), some (.val (.int t)), none, none] := by
    intro a'
    refine fr_mp ps Prod.fst (fun r ρ => (∀ p ∈ r, Wn p.1 p.2.1 p.2.2) ∧ ∃ w2 w3, fs (ps.map Prod.snd) t = fs (r.map Prod.snd) t ∧ ρ = [some (.val a'), some (.val (.int t)), w2, w3]) rfl ⟨hp, none, none, rfl, rfl⟩ (fun p r ρ K hI hK => ?_) (fun ρ hI => ?_)
    · obtain ⟨hr, w2, w3, e, rfl⟩ := hI
      obtain ⟨d, v⟩ := p
      have hr' : ∀ p ∈ r, Wn p.1 p.2.1 p.2.2 := fun p hp => hr p (by simp [hp])
      have hw : Wn d v.1 v.2 := hr (d, v) (by simp)
      have e : fs (ps.map Prod.snd) t = fs (v :: r.map Prod.snd) t := e
      have main : hCons (hName 2) (hCons (hName 3) hNil) [.str (wordS v.1), .int v.2] [some (.val a'), some (.val (.int t)), w2, w3] (fun ρ1 => pIfS (pTest (pOp fLe (pVar 3) (pVar 1))) (pRet (pMove 2)) pNext { nx := K, rt := (EA C).rt, bk := pRet (pVal (pC .non)) (EA C), ct := K } ρ1) := by
        refine ⟨rfl, ifB (fun q => ?_) (fun q => ?_)⟩
        · rw [e, fs_pos (dT q)] at hC; exact hC
        · exact hK _ ⟨hr', _, _, by rw [e, fs_neg (dF q)], rfl⟩
      rcases hw with e | e
      · have e : d = windD v.1 v.2 := e
        subst e
        exact ⟨rfl, main⟩
      · have e : d = .lst [.str (wordS v.1), .int v.2] := e
        subst e
        exact ⟨rfl, main⟩
    · obtain ⟨hr, w2, w3, e, rfl⟩ := hI
      rw [e] at hC
      exact hC
  rcases ha with rfl | rfl
  · exact body _
  · exact body _
def optI : Option Int → D
  | none => .non
  | some n => .int n
def g_parting : FA := fun ds C => ∃ a ws b vs, ds = [a, b] ∧ AmW a ws ∧ AmW b vs ∧ ws.length + vs.length ≤ 900 ∧ C (.val (optI (partL ws vs)))
theorem rd_parting : ∀ ds C, ds.length = 2 → g_parting ds C → T_parting g_first_to_shift (EA C) (startA N_parting ds) := by
  rintro ds C - ⟨a, ws, b, vs, rfl, ha, hb, hl, hC⟩
  have ha0 := ha
  have hb0 := hb
  obtain ⟨ps, ha, hp, hws⟩ := ha
  obtain ⟨qs, hb, hq, hvs⟩ := hb
  have hpl : ps.length = ws.length := by rw [← hws, List.length_map]
  have hql : qs.length = vs.length := by rw [← hvs, List.length_map]
  have esl : (ps ++ qs).map (fun z => D.int z.2.2) = dI (slL (ws ++ vs)) := by
    unfold slL dI
    rw [← hws, ← hvs, ← List.map_append, List.map_map, List.map_map]; rfl
  have key : ∀ a' b', AmW a' ws → AmW b' vs → lcW [2, 3] (hTup 2 (hCons (hName 2) (hCons (hName 3) hNil))) pYes (pVar 3) (fun acc ρ2 => pSeq (pSet 5 (pVal (pDflt min (pLc (jSeq (pVar 4)) (hName 3) (pTest (pOp fNe (pFrz (pCallA 2 g_first_to_shift (pCons (pVar 0) (pCons (pVar 3) pNil)))) (pFrz (pCallA 2 g_first_to_shift (pCons (pVar 1) (pCons (pVar 3) pNil)))))) (pVar 3) [3]) (pC .non))))
    (pRet (pVal (pIf (pTest (pOp fIsN (pVar 5) (pC .non))) (pC .non) (pOp fAdd (pVar 5) (pC (.int 1)))))) (EA C) (ρ2.set 4 (some (.val (.lst acc))))) ((ps ++ qs).map Prod.fst) [] [some (.val a'), some (.val b'), none, none, none, none] := by
    intro a' b' ha' hb'
    refine lc_mp (ps ++ qs) Prod.fst (fun z => D.int z.2.2) rfl (fun z hz K hK => ?_) (by rw [List.length_append]; omega) ?_
    · have hw : Wn z.1 z.2.1 z.2.2 := by
        rcases List.mem_append.mp hz with h | h
        · exact hp z h
        · exact hq z h
      rcases hw with e | e
      · rw [e]; exact ⟨rfl, rfl, hK _ rfl⟩
      · rw [e]; exact ⟨rfl, rfl, hK _ rfl⟩
    · rw [esl]
      refine lc_fl (slL (ws ++ vs)) D.int D.int (fun s => !(decide (fs ws s = fs vs s))) rfl (fun s hs K hK => ?_) (by unfold slL; rw [List.length_map, List.length_append]; omega) ⟨_, rfl, ?_⟩
      · refine ⟨rfl, a', ws, s, rfl, ha', rfl, b', vs, s, rfl, hb', sh_optW _, sh_optW _, ?_⟩
        show K (!(optW (fs ws s)).eqv (optW (fs vs s))) _
        rw [eqv_optW]
        exact hK _ rfl fun _ K2 hK2 => hK2 _ rfl
      · show pRet (pVal (pIf (pTest (pOp fIsN (pVar 5) (pC .non))) (pC .non) (pOp fAdd (pVar 5) (pC (.int 1))))) (EA C) [some (.val a'), some (.val b'), none, none, some (.val (.lst (dI (slL (ws ++ vs))))), some (.val (bestDD min .non (parts ws vs)))]
        unfold partL at hC
        cases hpt : parts ws vs with
        | nil => rw [hpt] at hC; exact hC
        | cons x r => rw [hpt] at hC; exact hC
  have sz : (ps ++ qs).length ≤ sizeLine := sl1000 (by rw [List.length_append]; omega)
  rw [← List.length_map (f := Prod.fst), List.map_append] at sz
  rw [List.map_append] at key
  have nil : ∀ l : List D, l ++ [] = l := List.append_nil
  rcases ha with rfl | rfl <;> rcases hb with rfl | rfl
  all_goals
    refine ⟨by show (ps.map Prod.fst ++ (qs.map Prod.fst ++ [])).length ≤ sizeLine; rw [nil]; exact sz, ?_⟩
    show lcW _ _ _ _ _ (ps.map Prod.fst ++ (qs.map Prod.fst ++ [])) [] _
    rw [nil]
    exact key _ _ ha0 hb0
/-! by steps -/
def g_shows_parting : FA := fun ds C => ∃ a ws b vs n, ds = [a, b, .int n] ∧ Am a ws ∧ Am b vs ∧ ws.length ≤ 900 ∧ vs.length ≤ 900 ∧ C (.val (.bl (decide (1 ≤ n) && !(decide (stL2 ws n = stL2 vs n)))))
theorem rd_shows_parting : ∀ ds C, ds.length = 3 → g_shows_parting ds C → T_shows_parting g_is_number g_behind (EA C) (startA N_shows_parting ds) := by
  rintro ds C - ⟨a, ws, b, vs, n, rfl, ha, hb, hl, hl2, hC⟩
  refine ⟨rfl, _, rfl, ?_⟩
  have two : (2 : Nat) ≤ sizeLine := by decide
  refine ifB (fun q => ?_) (fun q => ?_)
  · rw [decide_eq_false (by have := dT q; omega : ¬ 1 ≤ n)] at hC; exact hC
  · rw [decide_eq_true (by have := dF q; omega : 1 ≤ n)] at hC
    refine ⟨two, rfl, _, [0, n], a, ws, rfl, .inl rfl, ha, by simp, by show (2 : Nat) ≤ 1000; decide, hl, ?_⟩
    refine ⟨two, rfl, _, [0, n], b, vs, rfl, .inl rfl, hb, by simp, by show (2 : Nat) ≤ 1000; decide, hl2, sh_tupI _, sh_tupI _, ?_⟩
    show C (.val (.bl (!(tD (stL2 ws n)).eqv (tD (stL2 vs n)))))
    rw [show (tD (stL2 ws n)).eqv (tD (stL2 vs n)) = _ from eqv_tupI _ _]; exact hC
def g__law_step : FA := fun ds C => ∃ a ws n, ds = [a, .int n] ∧ Am a ws ∧ (∀ w ∈ ws, 0 ≤ w.2) ∧ C (.val (tD (stL2 ws n)))
theorem rd__law_step : ∀ ds C, ds.length = 2 → g__law_step ds C → T__law_step g__law_behind (EA C) (startA N__law_step ds) := by
  rintro ds C - ⟨a, ws, n, rfl, ha, hw, hC⟩
  exact ⟨by show (2 : Nat) ≤ sizeLine; decide, rfl, _, [0, n], a, ws, rfl, .inl rfl, ha, by simp, by show (2 : Nat) ≤ 1000; decide, hw, hC⟩
end Pl
namespace Pl
open PySem PySem.Spec PyProof.Rows L2
/-! ### cores by the law's own look -/
def lastWd (gs : List Wd) (k : Nat) (w : Wd) : Bool := decide (k + 1 = gs.length) || !(decide ((gs.getD (k + 1) w).1 = w.1))
theorem filt_sqz : ∀ (r pre : List Wd) (w : Wd), (((w :: r).zipIdx pre.length).filter fun z => lastWd (pre ++ w :: r) z.2 z.1).map (·.1) = sqz1 w r
  | [], pre, w => by
    have : lastWd (pre ++ [w]) pre.length w = true := by unfold lastWd; simp
    simp [this, sqz1]
  | v :: r, pre, w => by
    have ih := filt_sqz r (pre ++ [w]) v
    rw [List.length_append, List.length_singleton, List.append_assoc] at ih
    have ih : (((v :: r).zipIdx (pre.length + 1)).filter fun z => lastWd (pre ++ w :: v :: r) z.2 z.1).map (·.1) = sqz1 v r := ih
    have hw : lastWd (pre ++ w :: v :: r) pre.length w = !(decide (v.1 = w.1)) := by
      unfold lastWd
      rw [decide_eq_false (by simp), Bool.false_or, List.getD_eq_getElem?_getD, List.getElem?_append_right (by omega), show pre.length + 1 - pre.length = 1 by omega]; rfl
    rw [sqz1]
    by_cases e : w.1 = v.1
    · rw [if_pos e, List.zipIdx_cons, List.filter_cons_of_neg (by show ¬ lastWd (pre ++ w :: v :: r) pre.length w = true; rw [hw, e]; simp)]
      exact ih
    · rw [if_neg e, List.zipIdx_cons, List.filter_cons_of_pos (by show lastWd (pre ++ w :: v :: r) pre.length w = true; rw [hw]; simp; exact fun z => e z.symm), List.map_cons, ih]
theorem filt_core (gs : List Wd) : ((gs.zipIdx).filter fun z => lastWd gs z.2 z.1).map (·.1) = sqz gs := by
  cases gs with
  | nil => rfl
  | cons w r => exact filt_sqz r [] w
def g__law_core : FA := fun ds C => ∃ a ws, ds = [a] ∧ Am a ws ∧ ws.length ≤ 900 ∧ ∀ p, C (.own p (windsD (coreL ws)))
theorem rd__law_core : ∀ ds C, ds.length = 1 → g__law_core ds C → T__law_core (EA C) (startA N__law_core ds) := by
  rintro ds C - ⟨a, ws, rfl, ha, hl, hC⟩
  refine ⟨Nat.zero_le _, fun b => ?_⟩
  have two : (2 : Nat) ≤ sizeLine := by decide
  have body : ∀ a', forW (hTup 2 (hCons (hName 3) (hCons (hName 4) hNil))) (pIfS (pOr (pTest (pOp fIsN (pVar 2) (pC .non))) (pTest (pOp fLt (pVar 4) (pVar 2))))
    (pSeq (pAppend 1 (pTup (pCons (pVar 3) (pCons (pVar 4) pNil)))) (pSet 2 (pVal (pVar 4)))) pNext) { nx := pRet (pLcO (jE (pCons (pVar 1) pNil)) (hTup 2 (hCons (hName 5) (hCons (hName 6) hNil))) (pOr (pTest (pOp fEq (pOp fAdd (pVar 5) (pC (.int 1))) (pLenO 1))) (pTest (pOp fNe (pOp fIx (pIxO 1 (pOp fAdd (pVar 5) (pC (.int 1)))) (pC (.int 0))) (pIxO 6 (pC (.int 0)))))) (pVar 6) [5, 6]) (EA C), rt := (EA C).rt } (windsD ws) [some (.val a'), some (.own b []), some (.val .non), none, none, none, none] := by
    intro a'
    refine fr_mp ws (fun w => windD w.1 w.2) (fun r ρ => ∃ (acc : List Wd) (dl : D) (w3 w4 : Option Cell), acc.length + r.length ≤ 900 ∧ ((acc = [] ∧ dl = .non ∧ genL ws = genL r) ∨ ∃ ini w, acc = ini ++ [w] ∧ dl = .int w.2 ∧ genL ws = acc ++ gen1 w.2 r) ∧ ρ = [some (.val a'), some (.own b (windsD acc)), some (.val dl), w3, w4, none, none]) rfl ⟨[], .non, none, none, by simpa using hl, .inl ⟨rfl, rfl, rfl⟩, rfl⟩ (fun v r ρ K hI hK => ?_) (fun ρ hI => ?_)
    · obtain ⟨acc, dl, w3, w4, hlen, hg, rfl⟩ := hI
      have hlen' : acc.length + (r.length + 1) ≤ 900 := hlen
      have sz : (windsD acc).length < sizeLine := small1000 (by rw [windsD_len]; omega)
      have app : (acc = [] ∧ genL ws = genL (v :: r)) ∨ (∃ ini w, acc = ini ++ [w] ∧ genL ws = acc ++ gen1 w.2 (v :: r) ∧ v.2 < w.2) → K [some (.val a'), some (.own b (windsD acc ++ [windD v.1 v.2])), some (.val (.int v.2)), some (.val (.str (wordS v.1))), some (.val (.int v.2)), none, none] := fun h => by
        rw [windsD_snoc]
        refine hK _ ⟨acc ++ [v], .int v.2, _, _, by simp; omega, .inr ⟨acc, v, rfl, rfl, ?_⟩, rfl⟩
        rcases h with ⟨rfl, e⟩ | ⟨ini, w, e1, e2, h⟩
        · rw [e]; rfl
        · rw [e2, gen1, if_pos h, List.append_assoc]; rfl
      rcases hg with ⟨rfl, rfl, e⟩ | ⟨ini, w, rfl, rfl, e⟩
      · exact ⟨rfl, rfl, two, _, rfl, sz, app (.inl ⟨rfl, e⟩)⟩
      · refine ⟨rfl, rfl, ifB (fun q => ⟨two, _, rfl, sz, app (.inr ⟨ini, w, rfl, e, dT q⟩)⟩) (fun q => ?_)⟩
        refine hK _ ⟨ini ++ [w], .int w.2, _, _, by omega, .inr ⟨ini, w, rfl, rfl, ?_⟩, rfl⟩
        rw [e, gen1, if_neg (dF q)]
    · obtain ⟨acc, dl, w3, w4, hlen, hg, rfl⟩ := hI
      have hacc : acc = genL ws := by
        rcases hg with ⟨rfl, _, e⟩ | ⟨ini, w, rfl, _, e⟩
        · rw [e]; rfl
        · rw [e]; simp [gen1]
      have hal : acc.length ≤ 900 := by simpa using hlen
      have fin : ∀ p, C (.own p (((acc.zipIdx).filter fun z => lastWd acc z.2 z.1).map fun z => windD z.1.1 z.1.2)) := fun p => by
        have := hC p
        unfold coreL at this
        rw [← hacc, ← filt_core] at this
        unfold windsD at this
        rw [List.map_map] at this
        exact this
      refine lc_enf acc (fun w => windD w.1 w.2) (fun _ w => windD w.1 w.2) (fun k w => lastWd acc k w) rfl (fun k w hk K hK => ?_) (by omega) fun p => fin p
      refine ⟨rfl, rfl, sh_int _, sh_int _, ?_⟩
      have el : (D.int ((k : Int) + 1)).eqv (.int (((windsD acc).length : Nat) : Int)) = decide (k + 1 = acc.length) := by
        rw [eqv_int, windsD_len]
        by_cases h : k + 1 = acc.length
        · have : ((k : Int) + 1) = ((acc.length : Nat) : Int) := by omega
          simp [h, this]
        · have : ¬ ((k : Int) + 1) = ((acc.length : Nat) : Int) := by omega
          simp [h, this]
      rw [el]
      have hkl := lt_of_get hk
      by_cases h : k + 1 = acc.length
      · have e : lastWd acc k w = true := by unfold lastWd; rw [decide_eq_true h]; rfl
        rw [e] at hK
        exact ifT (by simp [h]) (hK _ rfl fun _ K2 hK2 => hK2 _ rfl)
      · have hk1 : k + 1 < acc.length := by omega
        have hg1 : acc[k + 1]? = some (acc.getD (k + 1) w) := by rw [List.getD_eq_getElem?_getD, List.getElem?_eq_getElem hk1]; rfl
        refine ifF (by simp [h]) ⟨windD (acc.getD (k + 1) w).1 (acc.getD (k + 1) w).2, ?_, _, rfl, _, rfl, sh_word _, sh_word _, ?_⟩
        · have : (windsD acc)[k + 1]? = some (windD (acc.getD (k + 1) w).1 (acc.getD (k + 1) w).2) := by unfold windsD; rw [List.getElem?_map, hg1]; rfl
          exact atI_nat this
        · have e : lastWd acc k w = !((acc.getD (k + 1) w).1 == w.1) := by
            unfold lastWd
            rw [decide_eq_false h, Bool.false_or]
            cases (acc.getD (k + 1) w).1 <;> cases w.1 <;> rfl
          show K (!(D.str (wordS (acc.getD (k + 1) w).1)).eqv (.str (wordS w.1))) _
          rw [eqv_word, ← e]
          exact hK _ rfl fun _ K2 hK2 => hK2 _ rfl
  rcases ha with rfl | rfl
  · exact body _
  · exact body _
end Pl
namespace Pl
open PySem PySem.Spec PyProof.Rows L2
/-! ### the frame of laws: for each box, some turns of _law_right -/
def gRight : FB := fun xs ds C => ∃ m, m ≤ 10000000 ∧ Bx m xs ∧ ds = [] ∧ ∀ zs, Bx (m + 1000000) zs → C (.val (.bl true)) zs
def Tlaw (n : Int) (g_box : FA) (g_right : FB) : TSp :=
  pSeq (pFor (jRng1 (pCons (pOp fAdd (pC (.int 1)) (pCB fMin2 (pCons (pC (.int 2)) (pCons (pLenO 0) pNil)))) pNil)) (hName 1)
    (pSeq (pSet 2 (pCallA 2 g_box (pCons (pVar 0) (pCons (pVar 1) pNil))))
    (pIfS (pNot (pTest (pCB fAll (pCons (pLc (jRng1 (pCons (pC (.int n)) pNil)) (hName 3) pYes (pFrz (pCallB 2 1 g_right pNil)) [3]) pNil)))) (pRet (pVal (pC (.bl false)))) pNext)))
    (pRet (pVal (pC (.bl true))))
theorem rd_Tlaw (N : List Str) (hN : N.length = 4) (n : Nat) (hn : n ≤ 10) : ∀ ds C, ds.length = 1 → g_law ds C → Tlaw n g__law_box gRight (EA C) (startA N ds) := by
  rintro ds C - ⟨ns, rfl, hns, hC⟩
  have eS : startA N [.scr ns] = [some (.val (.scr ns)), none, none, none] := by unfold startA; rw [hN]; rfl
  rw [eS]
  refine ⟨by show (-(2 ^ 62) : Int) ≤ 1 + min 2 _; omega, by show (1 + min 2 _ : Int) < 2 ^ 62; omega, ?_⟩
  refine fr_rg (1 + min 2 (ns.length : Int)).toNat (fun j ρ => ∃ w1 w2, ρ = [some (.val (.scr ns)), w1, w2, none]) rfl ⟨none, none, rfl⟩ (fun k ρ K hk hI hK => ?_) (fun ρ hI => hC)
  obtain ⟨w1, w2, rfl⟩ := hI
  refine ⟨rfl, ns, k, rfl, by omega, by omega, fun a0 zs hB => ?_⟩
  refine ⟨by show (-(2 ^ 62) : Int) ≤ (n : Int); omega, by show ((n : Int)) < 2 ^ 62; omega, ?_⟩
  refine lcW_inv (fun ds acc ρ => ∃ (j : Nat) (zs : List D), acc = (List.replicate j true).map D.bl ∧ j + ds.length = n ∧ Bx (1000000 * j) zs ∧ ρ = [some (.val (.scr ns)), some (.val (.int k)), some (.own a0 zs), none]) (fun d r acc ρ K2 hK2 hI => ?_) (fun acc ρ hI => ?_) _ _ _ ⟨0, zs, rfl, by simp [rangeD], hB, rfl⟩
  · obtain ⟨j, zs, rfl, hj, hB, rfl⟩ := hI
    have hj' : j + (r.length + 1) = n := hj
    refine ⟨zs, rfl, rfl, _, by omega, hB, rfl, fun zs2 hB2 => ⟨small1000 (by rw [List.length_map, List.length_replicate]; omega), ?_⟩⟩
    refine hK2 _ _ ⟨j + 1, zs2, ?_, by omega, by rw [Nat.mul_add]; exact hB2, rfl⟩
    rw [List.replicate_succ', List.map_append]; rfl
  · obtain ⟨j, zs, rfl, hj, hB, rfl⟩ := hI
    refine ⟨_, rfl, ifF ?_ (hK _ ⟨_, _, rfl⟩)⟩
    have : (List.replicate j true).all id = true := by rw [List.all_eq_true]; intro x hx; exact (List.mem_replicate.mp hx).2
    rw [this]; rfl
/-! ### winds put in that change nothing -/
theorem fs_or (a b : List Wd) (m : Wd) (x : Int) (h : fs a x = none → x < m.2) : fs (a ++ [m] ++ b) x = fs (a ++ b) x := by
  rw [fs_append, fs_append, fs_append]
  cases q : fs a x with
  | some c => rfl
  | none =>
    have := h q
    rw [show fs [m] x = none from by rw [fs_neg (by omega)]; rfl]; rfl
theorem fs_ins2 {vs : List Wd} {q : Nat} {m w : Wd} (hm : w ∈ vs.take q) (hs : w.2 ≤ m.2) (x : Int) : fs (vs.take q ++ [m] ++ vs.drop q) x = fs vs x := by
  rw [fs_or _ _ _ _ fun h => by have := fs_none_iff.mp h w hm; omega, List.take_append_drop]
theorem drop_at {vs : List Wd} {j : Nat} {w : Wd} (h : vs[j]? = some w) : vs.drop j = w :: vs.drop (j + 1) := by
  have hj : j < vs.length := lt_of_get h
  rw [List.drop_eq_getElem_cons hj]
  rw [List.getElem?_eq_getElem hj] at h
  rw [Option.some.inj h]
theorem fs_ins1 {vs : List Wd} {j : Nat} {w : Wd} {s : Int} (h : vs[j]? = some w) (hs : w.2 ≤ s) (x : Int) : fs (vs.take j ++ [(w.1, s)] ++ vs.drop j) x = fs vs x := by
  have e : fs vs x = fs (vs.take j ++ vs.drop j) x := by rw [List.take_append_drop]
  rw [e, fs_append, fs_append, fs_append, drop_at h]
  cases fs (vs.take j) x with
  | some c => rfl
  | none =>
    show (fs [(w.1, s)] x).or (fs (w :: vs.drop (j + 1)) x) = fs (w :: vs.drop (j + 1)) x
    by_cases q : s ≤ x
    · rw [fs_pos (show ((w.1, s) : Wd).2 ≤ x from q), fs_pos (by omega)]; rfl
    · rw [show fs [(w.1, s)] x = none from by rw [fs_neg (show ¬ ((w.1, s) : Wd).2 ≤ x from q)]; rfl]; rfl
theorem ins_mem {vs : List Wd} {q : Nat} {m v : Wd} (h : v ∈ vs.take q ++ [m] ++ vs.drop q) : v ∈ vs ∨ v = m := by
  rcases List.mem_append.mp h with h | h
  · rcases List.mem_append.mp h with h | h
    · exact .inl (List.mem_of_mem_take h)
    · exact .inr (List.mem_singleton.mp h)
  · exact .inl (List.mem_of_mem_drop h)
theorem ins_len (vs : List Wd) (q : Nat) (m : Wd) : (vs.take q ++ [m] ++ vs.drop q).length = vs.length + 1 := by
  rw [List.append_assoc, List.length_append, List.length_append, List.length_take, List.length_drop, List.length_singleton]; omega
theorem insD (vs : List Wd) (q : Nat) (m : Wd) : cutD (windsD vs) none (some (q : Int)) ++ [windD m.1 m.2] ++ cutD (windsD vs) (some (q : Int)) none = windsD (vs.take q ++ [m] ++ vs.drop q) := by
  rw [cutD_to, cutD_from, windsD_take, windsD_drop, windsD_snoc, windsD_append]
theorem atW {vs : List Wd} {j : Nat} {w : Wd} (h : vs[j]? = some w) : atI (windsD vs) (j : Int) = some (windD w.1 w.2) := by
  have : (windsD vs)[j]? = some (windD w.1 w.2) := by unfold windsD; rw [List.getElem?_map, h]; rfl
  exact atI_nat this
theorem okN_winds {cs : List Wd} (h : cs.length ≤ 1000) : okN 3 (.lst (windsD cs)) := ⟨by rw [windsD_len]; exact h, fun x hx => by
  obtain ⟨w, _, rfl⟩ := mem_windsD hx
  exact ⟨by show (2 : Nat) ≤ 1000; decide, fun y hy => by
    rcases List.mem_cons.mp hy with rfl | hy
    · exact sh_word _
    · rw [List.mem_singleton.mp hy]; trivial⟩⟩
theorem okN_bls {l : List Bool} (h : l.length ≤ 1000) : okN 3 (.lst (l.map D.bl)) := ⟨by rw [List.length_map]; exact h, fun x hx => by
  obtain ⟨b, _, rfl⟩ := List.mem_map.mp hx
  trivial⟩
theorem okN_rows {l : List (List Int)} (h : l.length ≤ 1000) (g : ∀ x ∈ l, x.length ≤ 1000) : okN 3 (.lst (l.map tD)) := ⟨by rw [List.length_map]; exact h, fun x hx => by
  obtain ⟨m, hm, rfl⟩ := List.mem_map.mp hx
  exact okN_tD 1 (g m hm)⟩
abbrev vC (ns : List Int) : Option Cell := some (.val (.scr ns))
abbrev vW (ws : List Wd) : Option Cell := some (.val (.lst (windsD ws)))
abbrev vo (a : Addr) (zs : List D) : Option Cell := some (.own a zs)
end Pl
namespace Pl
open PySem PySem.Spec PyProof.Rows L2
variable [TJ]
/-! ### {"k1": "v1", "k2": "v2"}[e] -/
def pick2 (b : Bool) (x y : Str) : Str := if b = true then x else y
def fDix (k1 v1 k2 v2 : Str) : F1 := fun d Q => match d with
  | .str s => ∃ b : Bool, s = pick2 b k1 k2 ∧ Q (.str (pick2 b v1 v2))
  | _ => False
section
variable {X : Cx} {e : Expr} {te : TE} {Te : TEp} {pos dp p1 p2 p3 p4 : Pos} {k1 k2 v1 v2 : Str} {i1 i2 i3 i4 : Nat}
theorem ppe_dix (hu : X.A.units + 64 < cLine) (he : PPE X e te Te) (hne : k1 ≠ k2 := by decide) (hs : NoSl e := by exact fun _ _ => rfl) :
    PPE X (.Subscript (.Dict [some (.Constant (.str k1) i1 p1), some (.Constant (.str k2) i2 p2)] [.Constant (.str v1) i3 p3, .Constant (.str v2) i4 p4] dp) e pos) (tDGet (tDisp [(tC (.str k1), tC (.str v1)), (tC (.str k2), tC (.str v2))]) te) (pUn (fDix k1 v1 k2 v2) Te) :=
  ⟨pe_dget (by omega) (pe_disp (L2.pps_cons pe_str pe_str (L2.pps_cons pe_str pe_str L2.pps_nil)) rfl rfl (fun z => by cases z) (by show (2 : Nat) ≤ 15; decide)) he.pe hs, fun G F H σ ρ Q R S hT k => by
    intro p hp
    refine ⟨upd_same, [(.inr k1, .str v1), (.inr k2, .str v2)], rfl, by show (2 : Nat) ≤ 15; decide, ?_⟩
    have em : mergeK [] [((.inr k1 : Key), V.str v1), (.inr k2, .str v2)] = [((.inr k1 : Key), V.str v1), (.inr k2, .str v2)] := by
      have h12 : ¬ ((.inr k1 : Key) = .inr k2) := fun z => hne (Sum.inr.inj z)
      simp [mergeK, putK, h12]
    rw [em, upd_upd]
    have S1 := S.new (o := HO.dK [((.inr k1 : Key), V.str v1), (.inr k2, .str v2)]) hp
    refine he.snd G _ _ σ ρ _ _ S1 hT fun v d F' H' ρ' u S' r q => ?_
    have hd : H' p = some (.dK [((.inr k1 : Key), V.str v1), (.inr k2, .str v2)]) := S'.hF _ _ (u.ex _ _ upd_same)
    cases r with
    | str s =>
      obtain ⟨b, rfl, q⟩ := q
      cases b with
      | true => exact ⟨p, .str v1, rfl, .inl ⟨_, .inr k1, .inl hd, rfl, by simp [valV]⟩, k _ _ F' H' ρ' ((S.upNew hp).trans u) S' (.str _) q⟩
      | false =>
        have h21 : ¬ (k1 = k2) := hne
        exact ⟨p, .str v2, rfl, .inl ⟨_, .inr k2, .inl hd, rfl, by simp [valV, pick2, h21]⟩, k _ _ F' H' ρ' ((S.upNew hp).trans u) S' (.str _) q⟩
    | _ => exact q.elim⟩
end
/-! ### list(range(n)) -/
section
variable {X : Cx} {a : Expr} {ta : TE} {Ta : TEp} {p q pos pos2 : Pos}
def pLstRg (Ta : TEp) : TEp := fun ρ Q => Ta ρ fun x ρ1 => match x with
  | .int n => 0 ≤ n ∧ n ≤ 16777216 ∧ Q (.lst (rangeD 0 n.toNat)) ρ1
  | _ => False
theorem ppe_lstRg (hg : Gl X "list") (hm : X.mg "list" = none) (hgr : Gl X "range") (hmr : X.mg "range" = none) (hc : X.calm = true) (ha : PPE X a ta Ta) (na : starEach [a] X.env = (false, eval a X.env) :: starEach [] X.env := by rfl)
    (nb : starEach [.Call (.Name "range" q) [a] [] pos2] X.env = (false, eval (.Call (.Name "range" q) [a] [] pos2) X.env) :: starEach [] X.env := by rfl) :
    PPE X (.Call (.Name "list" p) [.Call (.Name "range" q) [a] [] pos2] [] pos) (tLstRg (tRg1 ta)) (pLstRg Ta) := ⟨pe_listRg hc hg hm (prg_1 hgr hmr ha.pe na) nb, fun G F H σ ρ Q R S hT k =>
  ha.snd G F H σ ρ _ _ S hT fun v d F1 H1 ρ1 u1 S1 r1 q1 => by
    cases r1 with
    | int n =>
      obtain ⟨h0, h1, q⟩ := q1
      exact ⟨n, rfl, RgOk.of_le (by decide) h1 (by decide) h0, fun b hb => k _ _ _ _ ρ1 (u1.trans (S1.upNew hb)) (S1.new hb) (.lst upd_same (reps_rg n)) q⟩
    | _ => exact q1.elim⟩
end
end Pl
namespace Pl
open PySem PySem.Spec PyProof.Rows L2
variable [TJ]
/-! ### list(range(a, b)) -/
section
variable {X : Cx} {a b : Expr} {ta tb : TE} {Ta Tb : TEp} {p q pos pos2 : Pos}
theorem reps_rg2 {K : PySem.W.Frag} {F : Hp} (i j : Int) : Reps K F (rgV i j) (rangeD i (j - i).toNat) := by
  have e1 : rgV i j = ((List.range (j - i).toNat).map fun (n : Nat) => i + (n : Int)).map V.int := by
    unfold rgV; rw [List.map_map]; rfl
  have e2 : rangeD i (j - i).toNat = ((List.range (j - i).toNat).map fun (n : Nat) => i + (n : Int)).map D.int := by
    unfold rangeD; rw [List.map_map]; rfl
  rw [e1, e2]
  exact Reps.ofInts _
def pLstRg2 (Ta Tb : TEp) : TEp := fun ρ Q => Ta ρ fun x ρ1 => Tb ρ1 fun y ρ2 => match x, y with
  | .int i, .int j => 0 ≤ i ∧ i ≤ 16777216 ∧ 0 ≤ j ∧ j ≤ 16777216 ∧ Q (.lst (rangeD i (j - i).toNat)) ρ2
  | _, _ => False
theorem ppe_lstRg2 (hg : Gl X "list") (hm : X.mg "list" = none) (hgr : Gl X "range") (hmr : X.mg "range" = none) (hc : X.calm = true) (ha : PPE X a ta Ta) (hb : PPE X b tb Tb) (na : starEach [a, b] X.env = (false, eval a X.env) :: starEach [b] X.env := by rfl)
    (nb : starEach [b] X.env = (false, eval b X.env) :: starEach [] X.env := by rfl) (np : (backTo pos2 (starEach [b] X.env)).any (·.1) = false := by rfl)
    (nr : starEach [.Call (.Name "range" q) [a, b] [] pos2] X.env = (false, eval (.Call (.Name "range" q) [a, b] [] pos2) X.env) :: starEach [] X.env := by rfl) :
    PPE X (.Call (.Name "list" p) [.Call (.Name "range" q) [a, b] [] pos2] [] pos) (tLstRg (tRg2 ta tb)) (pLstRg2 Ta Tb) := ⟨pe_listRg hc hg hm (prg_2 hgr hmr ha.pe hb.pe na nb np) nr, fun G F H σ ρ Q R S hT k =>
  ha.snd G F H σ ρ _ _ S hT fun v d F1 H1 ρ1 u1 S1 r1 q1 => hb.snd G F1 H1 σ ρ1 _ _ S1 q1 fun v2 d2 F2 H2 ρ2 u2 S2 r2 q2 => by
    cases r1 with
    | int i =>
      cases r2 with
      | int j =>
        obtain ⟨h0, h1, h2, h3, q⟩ := q2
        exact ⟨i, j, rfl, rfl, RgOk.of_le h0 h3 h1 h2, fun b hb => k _ _ _ _ ρ2 ((u1.trans u2).trans (S2.upNew hb)) (S2.new hb) (.lst upd_same (reps_rg2 i j)) q⟩
      | _ => exact q2.elim
    | _ => exact (by cases d2 <;> exact q2.elim)⟩
end
end Pl
namespace L2
open PySem PySem.Spec PyProof.Rows
section
variable {X : Cx} {a b c d : Expr} {ta tb tc td : TE} {pos : Pos}
/-- a op1 b op2 c op3 d -/
def tChain3 (r r' r'' : R2) (ta tb tc td : TE) : TE := fun σ H Q => ta σ H fun x H1 => tb σ H1 fun y H2 => r x y H2 fun z H3 => ∃ k, z = .bl k ∧
  (if k = true then tc σ H3 fun w' H4 => r' y w' H4 fun z' H5 => ∃ k', z' = .bl k' ∧ (if k' = true then td σ H5 fun u H6 => r'' w' u H6 Q else Q (.bl false) H5) else Q (.bl false) H3)
theorem pe_chain3 {op op' op'' : CmpOp} {r r' r'' : R2} (ho : OpR X (compareOp op) r) (ho' : OpR X (compareOp op') r') (ho'' : OpR X (compareOp op'') r'') (ha : PE X a ta) (hb : PE X b tb) (hc : PE X c tc) (hd : PE X d td)
    (hm : lastMarks [op, op', op''] [b, c, d] = false := by with_unfolding_all rfl) : PE X (.Compare a [op, op', op''] [b, c, d] pos) (tChain3 r r' r'' ta tb tc td) := by
  refine ⟨fun pins s σ H Q I h => ?_⟩
  refine Compare_chain (thn (ha.run pins s σ H _ I h) fun v s1 ⟨x, H1, I1, r1, q1⟩ => chain_link (thn (hb.run pins s1 σ H1 _ I1 q1) fun u s2 ⟨y, H2, I2, r2, q2⟩ =>
    thn (ho pins s2 σ H2 x y v u _ I2 r1 r2 q2) fun e s3 ⟨z, H3, I3, r3, k, e', q3⟩ => ?_)) hm
  subst e'
  cases r3
  refine wpAny_truthy_bool ?_
  cases k with
  | false => exact ite_ff ⟨.bl false, H3, I3, rfl, q3⟩
  | true =>
    refine ite_tt (chain_link (thn (hc.run pins s3 σ H3 _ I3 q3) fun w' s4 ⟨z', H4, I4, r4, q4⟩ => thn (ho' pins s4 σ H4 y z' u w' _ I4 r2 r4 q4) fun e s5 ⟨z2, H5, I5, r5, k2, e2, q5⟩ => ?_))
    subst e2
    cases r5
    refine wpAny_truthy_bool ?_
    cases k2 with
    | false => exact ite_ff ⟨.bl false, H5, I5, rfl, q5⟩
    | true => exact ite_tt (chain_last (thn (hd.run pins s5 σ H5 _ I5 q5) fun w2 s6 ⟨z3, H6, I6, r6, q6⟩ => ho'' pins s6 σ H6 z' z3 w' w2 Q I6 r4 r6 q6))
theorem pt_chain3 {op op' op'' : CmpOp} {r r' r'' : R2} (ho : OpR X (compareOp op) r) (ho' : OpR X (compareOp op') r') (ho'' : OpR X (compareOp op'') r'') (ha : PE X a ta) (hb : PE X b tb) (hc : PE X c tc) (hd : PE X d td)
    (hm : lastMarks [op, op', op''] [b, c, d] = false := by with_unfolding_all rfl) : PT X (.Compare a [op, op', op''] [b, c, d] pos) (tTest (tChain3 r r' r'' ta tb tc td)) := by
  refine ⟨fun pins s σ H Q I h => ?_⟩
  refine isTrue_chain (thn (ha.run pins s σ H _ I h) fun v s1 ⟨x, H1, I1, r1, q1⟩ => test_link (thn (hb.run pins s1 σ H1 _ I1 q1) fun u s2 ⟨y, H2, I2, r2, q2⟩ =>
    thn (ho pins s2 σ H2 x y v u _ I2 r1 r2 q2) fun e s3 ⟨z, H3, I3, r3, k, e', q3⟩ => ?_)) hm
  subst e'
  cases r3
  refine wpAny_truthy_bool ?_
  cases k with
  | false =>
    obtain ⟨k', e', q'⟩ := q3
    cases e'
    exact ite_ff ⟨H3, I3, q'⟩
  | true =>
    refine ite_tt (test_link (thn (hc.run pins s3 σ H3 _ I3 q3) fun w' s4 ⟨z', H4, I4, r4, q4⟩ => thn (ho' pins s4 σ H4 y z' u w' _ I4 r2 r4 q4) fun e s5 ⟨z2, H5, I5, r5, k2, e2, q5⟩ => ?_))
    subst e2
    cases r5
    refine wpAny_truthy_bool ?_
    cases k2 with
    | false =>
      obtain ⟨k', e', q'⟩ := q5
      cases e'
      exact ite_ff ⟨H5, I5, q'⟩
    | true =>
      refine ite_tt (test_last (thn (hd.run pins s5 σ H5 _ I5 q5) fun w2 s6 ⟨z3, H6, I6, r6, q6⟩ => thn (ho'' pins s6 σ H6 z' z3 w' w2 _ I6 r4 r6 q6) fun e s7 ⟨z4, H7, I7, r7, k3, e3, q7⟩ => ?_))
      subst e3
      cases r7
      exact wpAny_truthy_bool ⟨H7, I7, q7⟩
end
end L2
namespace Pl
open PySem PySem.Spec PyProof.Rows L2
variable [TJ]
section
variable {X : Cx} {a b c d : Expr} {ta tb tc td : TE} {Ta Tb Tc Td : TEp} {pos : Pos}
def pChain3 (f g e : F2) (Ta Tb Tc Td : TEp) : TEp := fun ρ Q => Ta ρ fun x ρ1 => Tb ρ1 fun y ρ2 => f x y fun z => match z with
  | .bl k => if k = true then Tc ρ2 fun w ρ3 => g y w fun z => match z with
      | .bl k' => if k' = true then Td ρ3 fun u ρ4 => e w u fun z => Q z ρ4 else Q (.bl false) ρ3
      | _ => False
    else Q (.bl false) ρ2
  | _ => False
theorem snd_chain3 {K : PySem.W.Frag} {r r' r'' : R2} {f g e : F2} (hp : OpP K r f) (hq : OpP K r' g) (hs : OpP K r'' e) (ha : SndE K ta Ta) (hb : SndE K tb Tb) (hc : SndE K tc Tc) (hd : SndE K td Td) : SndE K (tChain3 r r' r'' ta tb tc td) (pChain3 f g e Ta Tb Tc Td) := fun G F H σ ρ Q R S hT k =>
  ha G F H σ ρ _ _ S hT fun x dx F1 H1 ρ1 u1 S1 r1 h1 => hb G F1 H1 σ ρ1 _ _ S1 h1 fun y dy F2 H2 ρ2 u2 S2 r2 h2 =>
    hp F2 H2 x y dx dy _ _ S2.hF (r1.mono u2.ex) r2 h2 fun v dv F3 H3 res q => by
      obtain ⟨u3, S3, r3⟩ := S2.res res
      cases r3 with
      | bl b =>
        refine ⟨b, rfl, ?_⟩
        cases b with
        | true =>
          have q := ite_t q
          refine ite_ti ?_
          refine hc G F3 H3 σ ρ2 _ _ S3 q fun w dw F4 H4 ρ4 u4 S4 r4 h4 => hq F4 H4 y w dy dw _ _ S4.hF ((r2.mono u3.ex).mono u4.ex) r4 h4 fun v5 d5 F5 H5 res5 q5 => ?_
          obtain ⟨u5, S5, r5⟩ := S4.res res5
          cases r5 with
          | bl b2 =>
            refine ⟨b2, rfl, ?_⟩
            cases b2 with
            | true =>
              have q5 := ite_t q5
              refine ite_ti ?_
              refine hd G F5 H5 σ ρ4 _ _ S5 q5 fun u' du F6 H6 ρ6 u6 S6 r6 h6 => hs F6 H6 w u' dw du _ _ S6.hF ((r4.mono u5.ex).mono u6.ex) r6 h6 fun v7 d7 F7 H7 res7 q7 => ?_
              obtain ⟨u7, S7, r7⟩ := S6.res res7
              exact k v7 d7 F7 H7 ρ6 ((((((u1.trans u2).trans u3).trans u4).trans u5).trans u6).trans u7) S7 r7 q7
            | false =>
              have q5 := ite_f q5
              refine ite_fi ?_
              exact k _ _ F5 H5 ρ4 ((((u1.trans u2).trans u3).trans u4).trans u5) S5 (.bl _) q5
          | _ => exact q5.elim
        | false =>
          have q := ite_f q
          refine ite_fi ?_
          exact k _ _ F3 H3 ρ2 ((u1.trans u2).trans u3) S3 (.bl _) q
      | _ => exact q.elim
theorem ppe_chain3 {op op' op'' : CmpOp} {r r' r'' : R2} {f g e : F2} (h1 : Cmp X op r f) (h2 : Cmp X op' r' g) (h3 : Cmp X op'' r'' e) (ha : PPE X a ta Ta) (hb : PPE X b tb Tb) (hc : PPE X c tc Tc) (hd : PPE X d td Td) (hm : lastMarks [op, op', op''] [b, c, d] = false := by with_unfolding_all rfl) :
    PPE X (.Compare a [op, op', op''] [b, c, d] pos) (tChain3 r r' r'' ta tb tc td) (pChain3 f g e Ta Tb Tc Td) := ⟨pe_chain3 h1.op h2.op h3.op ha.pe hb.pe hc.pe hd.pe hm, snd_chain3 h1.pp h2.pp h3.pp ha.snd hb.snd hc.snd hd.snd⟩
theorem ppt_chain3 {op op' op'' : CmpOp} {r r' r'' : R2} {f g e : F2} (h1 : Cmp X op r f) (h2 : Cmp X op' r' g) (h3 : Cmp X op'' r'' e) (ha : PPE X a ta Ta) (hb : PPE X b tb Tb) (hc : PPE X c tc Tc) (hd : PPE X d td Td) (hm : lastMarks [op, op', op''] [b, c, d] = false := by with_unfolding_all rfl) :
    PPT X (.Compare a [op, op', op''] [b, c, d] pos) (tTest (tChain3 r r' r'' ta tb tc td)) (pTest (pChain3 f g e Ta Tb Tc Td)) := ⟨pt_chain3 h1.op h2.op h3.op ha.pe hb.pe hc.pe hd.pe hm, snd_test (snd_chain3 h1.pp h2.pp h3.pp ha.snd hb.snd hc.snd hd.snd)⟩
end
end Pl
/-! ### every other item -/
namespace L2
open PySem PySem.Spec PyProof.Rows
def ev2 {α : Type} : List α → List α
  | [] => []
  | [x] => [x]
  | x :: _ :: r => x :: ev2 r
theorem ev2_len {α : Type} : ∀ l : List α, (ev2 l).length ≤ l.length
  | [] => Nat.le_refl _
  | [x] => Nat.le_refl _
  | x :: y :: r => by
    have := ev2_len r
    show (ev2 r).length + 1 ≤ r.length + 1 + 1
    omega
theorem pick2 {α : Type} : ∀ l : List α, (List.range ((l.length + 1) / 2)).filterMap (fun k => l[2 * k]?) = ev2 l
  | [] => by
    rw [show (([] : List α).length + 1) / 2 = 0 by show (0 + 1) / 2 = 0; decide]
    rfl
  | [x] => by
    rw [show ([x].length + 1) / 2 = 1 by show (1 + 1) / 2 = 1; decide, show List.range 1 = [0] from rfl, List.filterMap_cons]
    rfl
  | x :: y :: r => by
    have e : ((x :: y :: r).length + 1) / 2 = (r.length + 1) / 2 + 1 := by
      show (r.length + 1 + 1 + 1) / 2 = _
      omega
    rw [e, List.range_succ_eq_map, List.filterMap_cons, List.filterMap_map]
    have e2 : ((fun k => (x :: y :: r)[2 * k]?) ∘ Nat.succ) = fun k => r[2 * k]? := by
      funext k
      show (x :: y :: r)[2 * (k + 1)]? = r[2 * k]?
      rw [show 2 * (k + 1) = 2 * k + 1 + 1 by omega]
      rfl
    rw [e2, pick2 r]
    rfl
theorem slicePick_2 (its : List Value) (s : Nat) (lo : Option Int) (h : lo = none ∧ s = 0 ∨ lo = some (s : Int)) : slicePick its.toArray lo none (some 2) = (ev2 (its.drop s)).toArray := by
  have hb : sliceBounds lo none (some 2) its.toArray.size = (((min s its.length : Nat) : Int), (its.length : Int), 2) := by
    rcases h with ⟨rfl, rfl⟩ | rfl
    · simp [sliceBounds]
    · simp only [sliceBounds, Option.getD_some, show (2 : Int) > 0 by decide, if_true, List.size_toArray]
      have : ¬ ((s : Int) < 0) := by omega
      simp only [this, if_false]
      rw [show max (0 : Int) (min (s : Int) (its.length : Int)) = ((min s its.length : Nat) : Int) by omega]
  unfold slicePick
  rw [hb]
  congr 1
  unfold sliceRange
  dsimp only
  simp only [show (2 : Int) > 0 by decide, if_true]
  have cnt : (if ((min s its.length : Nat) : Int) < (its.length : Int) then ((its.length : Int) - ((min s its.length : Nat) : Int) + 2 - 1) / 2 else 0).toNat = ((its.drop s).length + 1) / 2 := by
    rw [List.length_drop]
    split <;> omega
  rw [cnt, ← pick2 (its.drop s), List.filterMap_map]
  have fc : ∀ (l : List Nat) (f g : Nat → Option Value), (∀ k ∈ l, f k = g k) → l.filterMap f = l.filterMap g := by
    intro l f g
    induction l with
    | nil => intro _; rfl
    | cons x r ih =>
      intro h
      rw [List.filterMap_cons, List.filterMap_cons, h x List.mem_cons_self, ih fun k hk => h k (List.mem_cons_of_mem _ hk)]
  refine fc _ _ _ fun k hk => ?_
  have hk := List.mem_range.mp hk
  rw [List.length_drop] at hk
  show its.toArray[(((min s its.length : Nat) : Int) + 2 * (k : Int)).toNat]? = (its.drop s)[2 * k]?
  rw [show (((min s its.length : Nat) : Int) + 2 * (k : Int)).toNat = s + 2 * k by omega, List.getElem?_drop]
  simp
theorem Vals.ev2 : ∀ {xs : List V} {us : List Value}, Vals xs us → Vals (L2.ev2 xs) (L2.ev2 us)
  | _, _, .nil => .nil
  | _, _, .cons h .nil => .cons h .nil
  | _, _, .cons h (.cons _ t) => .cons h (Vals.ev2 t)
def tSl2 (K : PySem.W.Frag) (s : Nat) (te : TE) : TE := fun σ H Q => te σ H fun x H1 => ∃ a xs, x = .ref a ∧ SqL K H1 a xs ∧ ∀ p, H1 p = none → Q (.ref p) (upd H1 p (.lst (L2.ev2 (xs.drop s))))
section
variable {X : Cx}
theorem pe_sl2 {e : Expr} {te : TE} {lo : Option Expr} {tl : TO} {k : Nat} {p1 p3 pos : Pos} {s : Nat} {o : Option Int} (hl : PO X lo tl) (ho : o = none ∧ s = 0 ∨ o = some (s : Int)) (ht : ∀ σ H (Q : Option Int → Hp → Prop), Q o H → tl σ H Q) (he : PE X e te) :
    PE X (.Subscript e (.Slice lo none (some (.Constant (.int 2) k p1)) p3) pos) (tSl2 X.K s te) := by
  refine ⟨fun pins s0 σ H Q I h => ?_⟩
  refine Subscript_ (thn (he.run pins s0 σ H _ I h) fun v s1 ⟨x, H1, I1, r1, q1⟩ => ?_)
  obtain ⟨a, xs, ex, hx, q⟩ := q1
  subst ex
  cases r1
  have hst : PO X (some (.Constant (.int 2) k p1)) (tPart (tC (.int 2))) := po_some pe_int
  refine wpAny_Slice (thn (hl.run pins s1 σ H1 (fun o' H2 => o' = o ∧ H2 = H1) I1 (ht σ H1 _ ⟨rfl, rfl⟩)) fun vl s2 ⟨l, H2, I2, pl, el, e2⟩ => ?_)
  subst el e2
  refine thn (po_none.run pins s2 σ H2 (fun o H3 => o = none ∧ H3 = H2) I2 ⟨rfl, rfl⟩) fun vu s3 ⟨u, H3, I3, pu, eu, e3⟩ => ?_
  subst eu e3
  refine thn (hst.run pins s3 σ H3 (fun o H4 => o = some 2 ∧ H4 = H3) I3 ⟨2, rfl, rfl, rfl⟩) fun vs s4 ⟨o', H4, I4, ps, eo, e4⟩ => ?_
  subst eo e4
  have I5 : Inv X pins σ H4 { s4 with heap := s4.heap.push { cls := .type "slice", data := .fields #[vl, vu, vs] } } := I4.kept (t' := s4.toks) fun b ob q => Heap.get?_push_of_some _ q
  obtain ⟨its, r, hts, hz⟩ := I5.list hx
  have hlen := r.length
  show wpAny (model X.prog X.w) X.A (subscriptTail e (.Slice lo none (some (.Constant (.int 2) k p1)) p3) (.ref a) (.ref s4.heap.objs.size)) (EP X pins σ Q) X.xe { s4 with heap := s4.heap.push { cls := .type "slice", data := .fields #[vl, vu, vs] } }
  refine tail_any (ops := [.ref a, .ref s4.heap.objs.size]) hts.isList.typeIs (PySem.slot_list_getitem.lookup) ?_ (by with_unfolding_all rfl)
  refine wpAny_getItem_list_slice hts.isList (Heap.IsSliceOf.new _ vl vu vs) pl pu ps (by decide) ?_ (by rw [List.size_toArray]; omega)
  rw [slicePick_2 its s l ho]
  refine ⟨.ref _, _, I5.laid (t' := s4.toks) (o := .lst (L2.ev2 (xs.drop s))) (fun b ob q => Heap.get?_push_of_some _ q) (Nat.le_refl _) ?_, rfl, q _ (I5.hok.fresh (Nat.le_refl _))⟩
  exact ⟨Nat.le_trans (ev2_len _) (by rw [List.length_drop]; omega), _, 0, (r.drop s).ev2, Heap.get?_push_size _ rfl⟩
end
end L2
namespace Pl
open PySem PySem.Spec PyProof.Rows L2
variable [TJ]
theorem Reps.drop' {K : PySem.W.Frag} {F : Hp} : ∀ {vs : List V} {ds : List D} (n : Nat), Reps K F vs ds → Reps K F (vs.drop n) (ds.drop n)
  | _, _, 0, h => h
  | _, _, _ + 1, .nil => .nil
  | _, _, n + 1, .cons _ t => Reps.drop' n t
theorem Reps.ev2 {K : PySem.W.Frag} {F : Hp} : ∀ {vs : List V} {ds : List D}, Reps K F vs ds → Reps K F (L2.ev2 vs) (L2.ev2 ds)
  | _, _, .nil => .nil
  | _, _, .cons h .nil => .cons h .nil
  | _, _, .cons h (.cons _ t) => .cons h (Reps.ev2 t)
section
variable {X : Cx} {a : Expr} {ta : TE} {Ta : TEp} {p pos : Pos}
def pSl2 (s : Nat) (Te : TEp) : TEp := fun ρ Q => Te ρ fun x ρ1 => match x with
  | .lst xs => Q (.lst (L2.ev2 (xs.drop s))) ρ1
  | _ => False
theorem snd_sl2 {K : PySem.W.Frag} {s : Nat} (ha : SndE K ta Ta) : SndE K (tSl2 K s ta) (pSl2 s Ta) := fun G F H σ ρ Q R S hT k =>
  ha G F H σ ρ _ _ S hT fun v d F1 H1 ρ1 u1 S1 r1 q1 => by
    cases r1 with
    | lst e r => exact ⟨_, _, rfl, SqL.of (S1.hF _ _ e), fun p hp => k _ _ _ _ ρ1 (u1.trans (S1.upNew hp)) (S1.new hp) (.lst upd_same ((r.mono (same_new (S1.freshF hp))).drop' s).ev2) q1⟩
    | _ => exact q1.elim
theorem ppe_sl2a {k : Nat} {p1 p3 : Pos} (ha : PPE X a ta Ta) : PPE X (.Subscript a (.Slice none none (some (.Constant (.int 2) k p1)) p3) pos) (tSl2 X.K 0 ta) (pSl2 0 Ta) := ⟨pe_sl2 po_none (.inl ⟨rfl, rfl⟩) (fun _ _ _ h => h) ha.pe, snd_sl2 ha.snd⟩
theorem ppe_sl2b {k k2 : Nat} {p1 p2 p3 : Pos} (ha : PPE X a ta Ta) : PPE X (.Subscript a (.Slice (some (.Constant (.int 1) k2 p2)) none (some (.Constant (.int 2) k p1)) p3) pos) (tSl2 X.K 1 ta) (pSl2 1 Ta) := ⟨pe_sl2 (po_some pe_int) (.inr rfl) (fun _ _ _ h => ⟨1, rfl, h⟩) ha.pe, snd_sl2 ha.snd⟩
/-! ### sorted(xs, reverse=True) of ints -/
def pSortR (Te : TEp) : TEp := fun ρ Q => Te ρ fun x ρ1 => match x with
  | .lst xs => ∃ ns : List Int, xs = ns.map D.int ∧ ∀ ns' : List Int, ns'.Perm ns → ns'.Pairwise (· ≥ ·) → Q (.lst (ns'.map D.int)) ρ1
  | _ => False
theorem ppe_sortR {e : Expr} {te : TE} {Te : TEp} {p pos kp cp : Pos} {k : Nat} (hg : Gl X "sorted") (hm : X.mg "sorted" = none) (ha : PPE X e te Te) (he : backTo pos (starEach [e] X.env) = (false, eval e X.env) :: backTo pos (starEach [] X.env) := by rfl) (hpl : (backTo pos (starEach [e] X.env)).any (·.1) = false := by rfl)
    (hs : starEach [e] X.env = (false, eval e X.env) :: starEach [] X.env := by rfl) :
    PPE X (.Call (.Name "sorted" p) [e] [⟨some "reverse", .Constant (.bool true) k cp, kp⟩] pos) (tCKw (rSortedKw X.K true [.bl true]) (tCons te tNil) (tCons (tC (.bl true)) tNil)) (pSortR Te) := ⟨pe_callBK cr_sortedRev hg hm (by decide +kernel) (pa_cons ha.pe pa_nil hs) (pk_cons pe_bl pk_nil) (by decide) (by decide) he hpl, fun G F H σ ρ Q R S hT kk =>
  ha.snd G F H σ ρ _ _ S hT fun v d F1 H1 ρ1 u1 S1 r1 q1 => by
    cases r1 with
    | lst e r =>
      obtain ⟨ns, rfl, q⟩ := q1
      have := r.ints
      subst this
      refine ⟨_, ns, rfl, rfl, SqL.of (S1.hF _ _ e), fun ns' p hp ho hn => kk _ _ _ _ ρ1 (u1.trans (S1.upNew hn)) (S1.new hn) (.lst upd_same (Reps.ofInts ns')) (q ns' hp ho)⟩
    | _ => exact q1.elim⟩
end
end Pl
namespace Pl
/-! ### how many cores two books have -/
def fg : List Int → Int → Option Nat
  | [], _ => none
  | x :: r, s => if x ≤ s then some 0 else (fg r s).map (· + 1)
def fv : List Int → Int → Option Int
  | [], _ => none
  | x :: r, s => if x ≤ s then some x else fv r s
theorem fv_fg : ∀ (l : List Int) (s : Int), fv l s = (fg l s).map fun i => l.getD i 0
  | [], _ => rfl
  | x :: r, s => by
    unfold fv fg
    by_cases h : x ≤ s
    · rw [if_pos h, if_pos h]; rfl
    · rw [if_neg h, if_neg h, fv_fg r s, Option.map_map]
      rfl
theorem fg_some : ∀ {l : List Int} {s : Int} {i : Nat}, fg l s = some i → i < l.length ∧ l.getD i 0 ≤ s ∧ ∀ k, k < i → s < l.getD k 0
  | [], _, _, h => nomatch h
  | x :: r, s, i, h => by
    unfold fg at h
    by_cases hx : x ≤ s
    · rw [if_pos hx] at h
      cases h
      exact ⟨Nat.zero_lt_succ _, hx, fun k hk => absurd hk (Nat.not_lt_zero _)⟩
    · rw [if_neg hx] at h
      cases e : fg r s with
      | none => rw [e] at h; cases h
      | some j =>
        rw [e] at h
        cases h
        obtain ⟨h1, h2, h3⟩ := fg_some e
        refine ⟨Nat.succ_lt_succ h1, h2, fun k hk => ?_⟩
        cases k with
        | zero => exact Int.not_le.mp hx
        | succ k => exact h3 k (Nat.lt_of_succ_lt_succ hk)
theorem fg_mono {l : List Int} {s t : Int} {i j : Nat} (h : s ≤ t) (h1 : fg l t = some i) (h2 : fg l s = some j) : i ≤ j := by
  obtain ⟨_, a2, a3⟩ := fg_some h1
  obtain ⟨_, b2, _⟩ := fg_some h2
  refine Nat.not_lt.mp fun z => ?_
  have := a3 j z
  omega
theorem fv_none {l : List Int} {s : Int} : fv l s = none ↔ ∀ x ∈ l, s < x := by
  induction l with
  | nil => exact ⟨fun _ x hx => absurd hx (by simp), fun _ => rfl⟩
  | cons x r ih =>
    unfold fv
    by_cases h : x ≤ s
    · rw [if_pos h]
      exact ⟨(fun z => nomatch z), fun z => absurd (z x List.mem_cons_self) (by omega)⟩
    · rw [if_neg h, ih]
      exact ⟨fun z y hy => (List.mem_cons.mp hy).elim (fun e => by subst e; omega) (z y), fun z y hy => z y (List.mem_cons_of_mem _ hy)⟩
theorem fv_mem {l : List Int} {s y : Int} (h : fv l s = some y) : y ∈ l ∧ y ≤ s := by
  induction l with
  | nil => cases h
  | cons x r ih =>
    unfold fv at h
    by_cases hx : x ≤ s
    · rw [if_pos hx] at h
      cases h
      exact ⟨List.mem_cons_self, hx⟩
    · rw [if_neg hx] at h
      exact ⟨List.mem_cons_of_mem _ (ih h).1, (ih h).2⟩
theorem fv_skip {s : Int} : ∀ {p l : List Int}, (∀ x ∈ p, s < x) → fv (p ++ l) s = fv l s
  | [], _, _ => rfl
  | x :: p, l, h => by
    show (if x ≤ s then some x else fv (p ++ l) s) = _
    rw [if_neg (Int.not_le.mpr (h x List.mem_cons_self)), fv_skip fun y hy => h y (List.mem_cons_of_mem _ hy)]
theorem fv_app {s y : Int} : ∀ {p l : List Int}, fv p s = some y → fv (p ++ l) s = some y
  | [], _, h => nomatch h
  | x :: p, l, h => by
    show (if x ≤ s then some x else fv (p ++ l) s) = _
    unfold fv at h
    by_cases hx : x ≤ s
    · rw [if_pos hx] at h ⊢; exact h
    · rw [if_neg hx] at h ⊢; exact fv_app h
/-- the same first one, where none lies between -/
theorem fv_near {s t : Int} (h : s ≤ t) : ∀ {l : List Int}, (∀ x ∈ l, x ≤ t → x ≤ s) → fv l t = fv l s
  | [], _ => rfl
  | x :: r, z => by
    unfold fv
    by_cases hx : x ≤ s
    · rw [if_pos hx, if_pos (Int.le_trans hx h)]
    · rw [if_neg hx, if_neg fun q => hx (z x List.mem_cons_self q), fv_near h fun y hy => z y (List.mem_cons_of_mem _ hy)]
abbrev Sk := Option ((Int × Int) × Int × Int)
def goK (i j : Int) : Sk → Sk
  | none => some ((i, j), 1, 1)
  | some (p, m) => some ((i, j), m.1 + (if j = p.2 then 0 else m.2), (if i = p.1 then 0 else m.1) + m.2)
theorem goK_twice (i j : Int) (st : Sk) : goK i j (goK i j st) = goK i j st := by
  cases st with
  | none => simp [goK]
  | some q => obtain ⟨p, m⟩ := q; simp [goK]
def stK (kc kf : Int → Option Int) (st : Sk) (s : Int) : Sk := match kc s, kf s with
  | some i, some j => goK i j st
  | _, _ => st
def totK : Sk → Int
  | none => 1
  | some (_, m) => m.1 + m.2
def foldK (kc kf : Int → Option Int) (S : List Int) (st : Sk) : Sk := S.foldl (stK kc kf) st
def manyK (cuts fills S : List Int) : Int := totK (foldK (fv cuts) (fv fills) S none)
theorem foldK_congr {kc kf kc' kf' : Int → Option Int} : ∀ {S : List Int} {st : Sk}, (∀ s ∈ S, kc s = kc' s ∧ kf s = kf' s) → foldK kc kf S st = foldK kc' kf' S st
  | [], _, _ => rfl
  | s :: S, st, h => by
    show foldK kc kf S (stK kc kf st s) = foldK kc' kf' S (stK kc' kf' st s)
    rw [foldK_congr fun t ht => h t (List.mem_cons_of_mem _ ht)]
    congr 1
    unfold stK
    rw [(h s List.mem_cons_self).1, (h s List.mem_cons_self).2]
/-! ### as the program counts: by numbers -/
abbrev Sn := Option ((Nat × Nat) × Int × Int)
def goN (st : Sn) (q : Nat × Nat) : Sn := match st with
  | none => some (q, 1, 1)
  | some (p, m) => some (q, m.1 + (if q.2 = p.2 then 0 else m.2), (if q.1 = p.1 then 0 else m.1) + m.2)
def totN : Sn → Int
  | none => 1
  | some (_, m) => m.1 + m.2
def meetF (cuts fills : List Int) : List Int → List (Nat × Nat) → List (Nat × Nat)
  | [], acc => acc
  | s :: r, acc => match fg cuts s, fg fills s with
    | some i, some j => if (i, j) ∈ acc then meetF cuts fills r acc else meetF cuts fills r (acc ++ [(i, j)])
    | _, _ => meetF cuts fills r acc
def asK (cuts fills : List Int) (st : Sn) : Sk := st.map fun q => ((cuts.getD q.1.1 0, fills.getD q.1.2 0), q.2)
theorem totN_as (cuts fills : List Int) (st : Sn) : totK (asK cuts fills st) = totN st := by cases st <;> rfl
/-- the pairs met rise; the last one is that of some slope -/
def Met (cuts fills : List Int) (top : Int) (acc : List (Nat × Nat)) : Prop := acc = [] ∨ ∃ a p t, acc = a ++ [p] ∧ top ≤ t ∧ fg cuts t = some p.1 ∧ fg fills t = some p.2 ∧ ∀ q ∈ acc, q.1 ≤ p.1 ∧ q.2 ≤ p.2
theorem goN_last (a : List (Nat × Nat)) (p : Nat × Nat) : ∃ m, (a ++ [p]).foldl goN none = some (p, m) := by
  rw [List.foldl_append]
  show ∃ m, goN (a.foldl goN none) p = some (p, m)
  cases a.foldl goN none with
  | none => exact ⟨_, rfl⟩
  | some q => obtain ⟨q, m⟩ := q; exact ⟨_, rfl⟩
theorem asK_go {cuts fills : List Int} {s t : Int} {i j : Nat} {p : Nat × Nat} {m : Int × Int} (hst : s ≤ t) (h1 : fg cuts t = some p.1) (h2 : fg fills t = some p.2) (h3 : fg cuts s = some i) (h4 : fg fills s = some j) :
    goK (cuts.getD i 0) (fills.getD j 0) (asK cuts fills (some (p, m))) = asK cuts fills (goN (some (p, m)) (i, j)) := by
  have e : ∀ {l : List Int} {a b : Nat}, fg l t = some a → fg l s = some b → (l.getD b 0 = l.getD a 0 ↔ b = a) := fun {l a b} ha hb => ⟨fun z => by
    have le := fg_mono hst ha hb
    refine Nat.le_antisymm (Nat.not_lt.mp fun q => ?_) le
    obtain ⟨_, b2, b3⟩ := fg_some hb
    have := b3 a q
    omega, fun z => by rw [z]⟩
  show some (((cuts.getD i 0, fills.getD j 0), m.1 + (if fills.getD j 0 = fills.getD p.2 0 then 0 else m.2), (if cuts.getD i 0 = cuts.getD p.1 0 then 0 else m.1) + m.2)) = some (((cuts.getD i 0, fills.getD j 0), m.1 + (if j = p.2 then 0 else m.2), (if i = p.1 then 0 else m.1) + m.2))
  have c1 : (if fills.getD j 0 = fills.getD p.2 0 then 0 else m.2) = if j = p.2 then 0 else m.2 := by
    by_cases z : j = p.2
    · rw [if_pos z, if_pos ((e h2 h4).mpr z)]
    · rw [if_neg z, if_neg fun q => z ((e h2 h4).mp q)]
  have c2 : (if cuts.getD i 0 = cuts.getD p.1 0 then 0 else m.1) = if i = p.1 then 0 else m.1 := by
    by_cases z : i = p.1
    · rw [if_pos z, if_pos ((e h1 h3).mpr z)]
    · rw [if_neg z, if_neg fun q => z ((e h1 h3).mp q)]
  rw [c1, c2]
theorem meet_fold {cuts fills : List Int} : ∀ {S : List Int} {acc : List (Nat × Nat)} {top : Int}, S.Pairwise (· ≥ ·) → (∀ s ∈ S, s ≤ top) → Met cuts fills top acc →
    asK cuts fills ((meetF cuts fills S acc).foldl goN none) = foldK (fv cuts) (fv fills) S (asK cuts fills (acc.foldl goN none))
  | [], acc, top, _, _, _ => rfl
  | s :: S, acc, top, hp, ht, hM => by
    have hp1 : ∀ t ∈ S, t ≤ s := fun t ht => List.rel_of_pairwise_cons hp ht
    have hp2 := hp.of_cons
    have hs := ht s List.mem_cons_self
    have low : Met cuts fills s acc := by
      rcases hM with h | ⟨a, p, t, h1, h2, h3⟩
      · exact .inl h
      · exact .inr ⟨a, p, t, h1, Int.le_trans hs h2, h3⟩
    show asK cuts fills ((meetF cuts fills (s :: S) acc).foldl goN none) = foldK (fv cuts) (fv fills) S (stK (fv cuts) (fv fills) (asK cuts fills (acc.foldl goN none)) s)
    unfold meetF
    unfold stK
    rw [fv_fg cuts s, fv_fg fills s]
    cases e1 : fg cuts s with
    | none => exact meet_fold hp2 hp1 low
    | some i =>
      cases e2 : fg fills s with
      | none => exact meet_fold hp2 hp1 low
      | some j =>
        show asK cuts fills ((if (i, j) ∈ acc then meetF cuts fills S acc else meetF cuts fills S (acc ++ [(i, j)])).foldl goN none) = foldK (fv cuts) (fv fills) S (goK (cuts.getD i 0) (fills.getD j 0) (asK cuts fills (acc.foldl goN none)))
        rcases low with h | ⟨a, p, t, h1, h2, h3, h4, h5⟩
        · subst h
          rw [if_neg (by simp)]
          rw [meet_fold hp2 hp1 (.inr ⟨[], (i, j), s, rfl, Int.le_refl _, e1, e2, fun q hq => by simp at hq; subst hq; exact ⟨Nat.le_refl _, Nat.le_refl _⟩⟩)]
          rfl
        · obtain ⟨m, hm⟩ := goN_last a p
          have le1 := fg_mono h2 h3 e1
          have le2 := fg_mono h2 h4 e2
          have go := asK_go (m := m) h2 h3 h4 e1 e2
          rw [← hm, ← h1] at go
          by_cases hin : (i, j) ∈ acc
          · rw [if_pos hin]
            have := h5 _ hin
            have ei : i = p.1 := Nat.le_antisymm this.1 le1
            have ej : j = p.2 := Nat.le_antisymm this.2 le2
            rw [meet_fold hp2 hp1 (.inr ⟨a, p, s, h1, Int.le_refl _, by rw [e1, ei], by rw [e2, ej], h5⟩), go, h1, hm]
            subst ei
            subst ej
            simp [goN]
          · rw [if_neg hin]
            rw [meet_fold hp2 hp1 (.inr ⟨acc, (i, j), s, rfl, Int.le_refl _, e1, e2, fun q hq => ?_⟩), go, List.foldl_append]
            · rfl
            · rcases List.mem_append.mp hq with hq | hq
              · have := h5 q hq
                exact ⟨Nat.le_trans this.1 le1, Nat.le_trans this.2 le2⟩
              · rw [List.mem_singleton.mp hq]; exact ⟨Nat.le_refl _, Nat.le_refl _⟩
theorem many_meet {cuts fills S : List Int} (hS : S.Pairwise (· ≥ ·)) : totN ((meetF cuts fills S []).foldl goN none) = manyK cuts fills S := by
  cases S with
  | nil => rfl
  | cons s r =>
    have := meet_fold (cuts := cuts) (fills := fills) (S := s :: r) (acc := []) (top := s) hS (fun t ht => (List.mem_cons.mp ht).elim (fun e => by subst e; exact Int.le_refl _) fun h => List.rel_of_pairwise_cons hS h) (.inl rfl)
    unfold manyK
    rw [← totN_as cuts fills, this]
    rfl
end Pl
namespace Pl
theorem desc_unique {S T : List Int} (h : S.Perm T) (h1 : S.Pairwise (· ≥ ·)) (h2 : T.Pairwise (· ≥ ·)) : S = T := h.eq_of_pairwise (le := (· ≥ ·)) (fun a b _ _ x y => by have x : b ≤ a := x; have y : a ≤ b := y; omega) h1 h2
def sortD (l : List Int) : List Int := l.mergeSort (fun a b => decide (b ≤ a))
theorem sortD_perm (l : List Int) : (sortD l).Perm l := List.mergeSort_perm _ _
theorem sortD_pw (l : List Int) : (sortD l).Pairwise (· ≥ ·) := (List.pairwise_mergeSort (le := fun a b : Int => decide (b ≤ a)) (fun a b c h1 h2 => decide_eq_true (by
  have h1 := of_decide_eq_true h1
  have h2 := of_decide_eq_true h2
  omega)) (fun a b => by
  rcases Int.le_total b a with h | h
  · simp [h]
  · simp [h]) l).imp fun h => of_decide_eq_true h
def manyC (cuts fills : List Int) : Int := manyK cuts fills (sortD (cuts ++ fills))
theorem manyC_of {cuts fills S : List Int} (hp : S.Perm (cuts ++ fills)) (hS : S.Pairwise (· ≥ ·)) : manyC cuts fills = manyK cuts fills S := by
  unfold manyC
  rw [desc_unique (hp.trans (sortD_perm _).symm) hS (sortD_pw _)]
/-! ### books exchanged -/
def swK (st : Sk) : Sk := st.map fun q => ((q.1.2, q.1.1), (q.2.2, q.2.1))
theorem sw_sw (st : Sk) : swK (swK st) = st := by cases st <;> rfl
theorem sw_go (i j : Int) (st : Sk) : goK j i (swK st) = swK (goK i j st) := by
  cases st with
  | none => rfl
  | some q =>
    obtain ⟨⟨p1, p2⟩, a, b⟩ := q
    show some ((j, i), b + (if i = p1 then 0 else a), (if j = p2 then 0 else b) + a) = some ((j, i), (if i = p1 then 0 else a) + b, a + (if j = p2 then 0 else b))
    rw [Int.add_comm b, Int.add_comm a]
theorem sw_fold (kc kf : Int → Option Int) : ∀ (S : List Int) (st : Sk), foldK kf kc S (swK st) = swK (foldK kc kf S st)
  | [], _ => rfl
  | s :: S, st => by
    show foldK kf kc S (stK kf kc (swK st) s) = swK (foldK kc kf S (stK kc kf st s))
    rw [← sw_fold kc kf S]
    congr 1
    unfold stK
    cases kc s with
    | none => cases kf s <;> rfl
    | some i =>
      cases kf s with
      | none => rfl
      | some j => exact sw_go i j st
theorem sw_tot (st : Sk) : totK (swK st) = totK st := by
  cases st with
  | none => rfl
  | some q => exact Int.add_comm _ _
theorem manyC_swap (cuts fills : List Int) : manyC fills cuts = manyC cuts fills := by
  rw [manyC_of (S := sortD (cuts ++ fills)) ((sortD_perm _).trans List.perm_append_comm) (sortD_pw _)]
  show totK (foldK (fv fills) (fv cuts) _ (swK none)) = _
  rw [sw_fold, sw_tot]
  rfl
/-! ### so many times as great -/
theorem fv_scale {b : Int} (hb : 0 < b) (s : Int) : ∀ l : List Int, fv (l.map (b * ·)) (b * s) = (fv l s).map (b * ·)
  | [] => rfl
  | x :: r => by
    show (if b * x ≤ b * s then some (b * x) else fv (r.map (b * ·)) (b * s)) = (if x ≤ s then some x else fv r s).map (b * ·)
    by_cases h : x ≤ s
    · rw [if_pos h, if_pos (Int.mul_le_mul_of_nonneg_left h (Int.le_of_lt hb))]; rfl
    · rw [if_neg h, if_neg (fun z => h (Int.le_of_mul_le_mul_left z hb)), fv_scale hb s r]
def scK (b : Int) (st : Sk) : Sk := st.map fun q => ((b * q.1.1, b * q.1.2), q.2)
theorem sc_fold {b : Int} (hb : 0 < b) {kc kf kc' kf' : Int → Option Int} (h1 : ∀ s, kc' (b * s) = (kc s).map (b * ·)) (h2 : ∀ s, kf' (b * s) = (kf s).map (b * ·)) : ∀ (S : List Int) (st : Sk), foldK kc' kf' (S.map (b * ·)) (scK b st) = scK b (foldK kc kf S st)
  | [], _ => rfl
  | s :: S, st => by
    show foldK kc' kf' (S.map (b * ·)) (stK kc' kf' (scK b st) (b * s)) = scK b (foldK kc kf S (stK kc kf st s))
    rw [← sc_fold hb h1 h2 S]
    congr 1
    unfold stK
    rw [h1, h2]
    cases kc s with
    | none => cases kf s <;> rfl
    | some i =>
      cases kf s with
      | none => rfl
      | some j =>
        cases st with
        | none => rfl
        | some q =>
          obtain ⟨⟨p1, p2⟩, x, y⟩ := q
          have inj : ∀ u v : Int, (b * u = b * v) = (u = v) := fun u v => propext ⟨fun z => Int.eq_of_mul_eq_mul_left (by omega) z, fun z => by rw [z]⟩
          show some ((b * i, b * j), x + (if b * j = b * p2 then 0 else y), (if b * i = b * p1 then 0 else x) + y) = some ((b * i, b * j), x + (if j = p2 then 0 else y), (if i = p1 then 0 else x) + y)
          simp only [inj]
theorem manyC_scale {b : Int} (hb : 0 < b) (cuts fills : List Int) : manyC (cuts.map (b * ·)) (fills.map (b * ·)) = manyC cuts fills := by
  rw [manyC_of (S := (sortD (cuts ++ fills)).map (b * ·)) (by rw [← List.map_append]; exact (sortD_perm _).map _) (List.pairwise_map.mpr ((sortD_pw _).imp fun h => Int.mul_le_mul_of_nonneg_left h (Int.le_of_lt hb)))]
  have := sc_fold hb (kc := fv cuts) (kf := fv fills) (kc' := fv (cuts.map (b * ·))) (kf' := fv (fills.map (b * ·))) (fun s => fv_scale hb s _) (fun s => fv_scale hb s _) (sortD (cuts ++ fills)) none
  unfold manyK
  show totK (foldK _ _ _ (scK b none)) = _
  rw [this]
  unfold manyC manyK
  cases foldK (fv cuts) (fv fills) (sortD (cuts ++ fills)) none <;> rfl
/-! ### one more, no gentler than one ahead -/
theorem foldK_app (kc kf : Int → Option Int) (S T : List Int) (st : Sk) : foldK kc kf (S ++ T) st = foldK kc kf T (foldK kc kf S st) := List.foldl_append
theorem split_desc (v : Int) : ∀ {S : List Int}, S.Pairwise (· ≥ ·) → ∃ P Q, S = P ++ Q ∧ (∀ x ∈ P, v < x) ∧ ∀ x ∈ Q, x ≤ v
  | [], _ => ⟨[], [], rfl, by simp, by simp⟩
  | s :: S, h => by
    by_cases hs : v < s
    · obtain ⟨P, Q, e, h1, h2⟩ := split_desc v h.of_cons
      exact ⟨s :: P, Q, by rw [e]; rfl, fun x hx => (List.mem_cons.mp hx).elim (fun z => by rw [z]; exact hs) (h1 x), h2⟩
    · refine ⟨[], s :: S, rfl, by simp, fun x hx => ?_⟩
      rcases List.mem_cons.mp hx with rfl | hx
      · omega
      · have : x ≤ s := List.rel_of_pairwise_cons h hx
        omega
theorem manyC_more {A B fills : List Int} {v x : Int} (hx : x ∈ A) (hv : x ≤ v) : manyC (A ++ v :: B) fills = manyC (A ++ B) fills := by
  obtain ⟨P, Q, e, hP, hQ⟩ := split_desc v (sortD_pw ((A ++ B) ++ fills))
  have pm : (P ++ Q).Perm ((A ++ B) ++ fills) := by rw [← e]; exact sortD_perm _
  have pw : (P ++ Q).Pairwise (· ≥ ·) := by rw [← e]; exact sortD_pw _
  obtain ⟨pw1, pw2, pw3⟩ := List.pairwise_append.mp pw
  have pm' : (P ++ v :: Q).Perm ((A ++ v :: B) ++ fills) := by
    refine (List.perm_middle).trans ?_
    refine (List.Perm.cons v pm).trans ?_
    rw [List.append_assoc, List.append_assoc, ← List.cons_append]
    exact (List.perm_middle (a := v) (l₁ := A) (l₂ := B ++ fills)).symm
  have pw' : (P ++ v :: Q).Pairwise (· ≥ ·) := List.pairwise_append.mpr ⟨pw1, List.pairwise_cons.mpr ⟨fun y hy => hQ y hy, pw2⟩, fun a ha b hb => by
    rcases List.mem_cons.mp hb with rfl | hb
    · exact Int.le_of_lt (hP a ha)
    · exact pw3 a ha b hb⟩
  rw [manyC_of pm' pw', manyC_of pm pw]
  have keys : fv (A ++ v :: B) = fv (A ++ B) := by
    funext s
    by_cases hs : v ≤ s
    · cases e : fv A s with
      | none => have := fv_none.mp e x hx; omega
      | some y => rw [fv_app e, fv_app e]
    · cases e : fv A s with
      | none =>
        rw [fv_skip (fv_none.mp e), fv_skip (fv_none.mp e)]
        show (if v ≤ s then _ else _) = _
        rw [if_neg hs]
      | some y => rw [fv_app e, fv_app e]
  unfold manyK
  rw [keys, foldK_app, foldK_app]
  congr 1
  cases Q with
  | nil =>
    have : x ∈ P ++ [] := pm.symm.subset (List.mem_append_left _ (List.mem_append_left _ hx))
    rw [List.append_nil] at this
    have := hP x this
    omega
  | cons u Q =>
    have uv : u ≤ v := hQ u List.mem_cons_self
    have top : ∀ y ∈ P ++ u :: Q, y ≤ v → y ≤ u := fun y hy hyv => by
      rcases List.mem_append.mp hy with h | h
      · have := hP y h; omega
      · rcases List.mem_cons.mp h with rfl | h
        · exact Int.le_refl _
        · exact List.rel_of_pairwise_cons pw2 h
    have k1 : fv (A ++ B) v = fv (A ++ B) u := fv_near uv fun y hy => top y (pm.symm.subset (List.mem_append_left _ hy))
    have k2 : fv fills v = fv fills u := fv_near uv fun y hy => top y (pm.symm.subset (List.mem_append_right _ hy))
    generalize foldK (fv (A ++ B)) (fv fills) P none = st
    show foldK (fv (A ++ B)) (fv fills) Q (stK _ _ (stK _ _ st v) u) = foldK (fv (A ++ B)) (fv fills) Q (stK _ _ st u)
    congr 1
    unfold stK
    rw [k1, k2]
    cases fv (A ++ B) u with
    | none => rfl
    | some i =>
      cases fv fills u with
      | none => rfl
      | some j => exact goK_twice i j st
/-! ### the least wind alike in both books -/
theorem fv_least {l : List Int} {L s : Int} (hs : L ≤ s) : fv (l ++ [L]) s = some ((fv l s).getD L) := by
  cases e : fv l s with
  | none =>
    rw [fv_skip (fv_none.mp e)]
    show (if L ≤ s then some L else none) = _
    rw [if_pos hs]; rfl
  | some y => rw [fv_app e]; rfl
def LInv (L : Int) (kc kf : Int → Option Int) (top : Int) (st0 st1 st2 : Sk) : Prop :=
  (st1 = st0 ∧ st2 = st0 ∧ ∀ p m, st0 = some (p, m) → p.1 ≠ L ∧ p.2 ≠ L)
  ∨ ((∀ s, s ≤ top → kc s = none) ∧ st1 = st0 ∧ ∃ f a, f ≠ L ∧ st0 = some ((L, f), a, totK st2))
  ∨ ((∀ s, s ≤ top → kf s = none) ∧ st2 = st0 ∧ ∃ c b, c ≠ L ∧ st0 = some ((c, L), totK st1, b))
section
variable {L : Int} {kc kf : Int → Option Int}
theorem stK_ss {kc kf : Int → Option Int} {s i j : Int} (h1 : kc s = some i) (h2 : kf s = some j) (st : Sk) : stK kc kf st s = goK i j st := by unfold stK; rw [h1, h2]
theorem stK_n1 {kc kf : Int → Option Int} {s : Int} (h1 : kc s = none) (st : Sk) : stK kc kf st s = st := by unfold stK; rw [h1]
theorem stK_n2 {kc kf : Int → Option Int} {s : Int} (h1 : kf s = none) (st : Sk) : stK kc kf st s = st := by
  unfold stK; rw [h1]
  cases kc s <;> rfl
theorem linv_step (hc : ∀ s t, s ≤ t → kc t = none → kc s = none) (hf : ∀ s t, s ≤ t → kf t = none → kf s = none) (vc : ∀ s y, kc s = some y → y ≠ L) (vf : ∀ s y, kf s = some y → y ≠ L) {top s : Int} {st0 st1 st2 : Sk} (hs : s ≤ top)
    (some' : ¬ (kc s = none ∧ kf s = none)) (I : LInv L kc kf top st0 st1 st2) :
    LInv L kc kf s (stK (fun s => some ((kc s).getD L)) (fun s => some ((kf s).getD L)) st0 s) (stK (fun s => some ((kc s).getD L)) kf st1 s) (stK kc (fun s => some ((kf s).getD L)) st2 s) := by
  rw [stK_ss (kc := fun s => some ((kc s).getD L)) (kf := fun s => some ((kf s).getD L)) rfl rfl]
  rcases I with ⟨rfl, rfl, hk⟩ | ⟨dead, rfl, f, a, hfL, rfl⟩ | ⟨dead, rfl, c, b, hcL, rfl⟩
  · cases e1 : kc s with
    | none =>
      cases e2 : kf s with
      | none => exact absurd ⟨e1, e2⟩ some'
      | some j =>
        rw [stK_ss (kc := fun s => some ((kc s).getD L)) (kf := kf) rfl e2, stK_n1 e1, e1]
        refine .inr (.inl ⟨fun t ht => hc t s ht e1, rfl, j, ?_⟩)
        show ∃ a, j ≠ L ∧ goK L j st2 = some ((L, j), a, totK st2)
        cases st2 with
        | none => exact ⟨1, vf s j e2, rfl⟩
        | some q =>
          obtain ⟨p, x, y⟩ := q
          refine ⟨x + (if j = p.2 then 0 else y), vf s j e2, ?_⟩
          show some ((L, j), x + (if j = p.2 then 0 else y), (if L = p.1 then 0 else x) + y) = some ((L, j), x + (if j = p.2 then 0 else y), x + y)
          rw [if_neg fun z : L = p.1 => (hk p (x, y) rfl).1 z.symm]
    | some i =>
      cases e2 : kf s with
      | none =>
        rw [stK_n2 e2, stK_ss (kc := kc) (kf := fun s => some ((kf s).getD L)) e1 rfl, e2]
        refine .inr (.inr ⟨fun t ht => hf t s ht e2, rfl, i, ?_⟩)
        show ∃ b, i ≠ L ∧ goK i L st2 = some ((i, L), totK st2, b)
        cases st2 with
        | none => exact ⟨1, vc s i e1, rfl⟩
        | some q =>
          obtain ⟨p, x, y⟩ := q
          refine ⟨(if i = p.1 then 0 else x) + y, vc s i e1, ?_⟩
          show some ((i, L), x + (if L = p.2 then 0 else y), (if i = p.1 then 0 else x) + y) = some ((i, L), x + y, (if i = p.1 then 0 else x) + y)
          rw [if_neg fun z : L = p.2 => (hk p (x, y) rfl).2 z.symm]
      | some j =>
        rw [stK_ss (kc := fun s => some ((kc s).getD L)) (kf := kf) rfl e2, stK_ss (kc := kc) (kf := fun s => some ((kf s).getD L)) e1 rfl, e1, e2]
        refine .inl ⟨rfl, rfl, fun p m e => ?_⟩
        have e : goK i j st2 = some (p, m) := e
        have : p = (i, j) := by
          cases st2 with
          | none => cases e; rfl
          | some q => cases e; rfl
        subst this
        exact ⟨vc s i e1, vf s j e2⟩
  · have e1 := dead s hs
    cases e2 : kf s with
    | none => exact absurd ⟨e1, e2⟩ some'
    | some j =>
      rw [stK_ss (kc := fun s => some ((kc s).getD L)) (kf := kf) rfl e2, stK_n1 e1, e1]
      refine .inr (.inl ⟨fun t ht => dead t (by omega), rfl, j, a + (if j = f then 0 else totK st2), vf s j e2, ?_⟩)
      show some ((L, j), a + (if j = f then 0 else totK st2), (if L = L then 0 else a) + totK st2) = some ((L, j), a + (if j = f then 0 else totK st2), totK st2)
      rw [if_pos rfl, Int.zero_add]
  · have e2 := dead s hs
    cases e1 : kc s with
    | none => exact absurd ⟨e1, e2⟩ some'
    | some i =>
      rw [stK_n2 e2, stK_ss (kc := kc) (kf := fun s => some ((kf s).getD L)) e1 rfl, e2]
      refine .inr (.inr ⟨fun t ht => dead t (by omega), rfl, i, (if i = c then 0 else totK st1) + b, vc s i e1, ?_⟩)
      show some ((i, L), totK st1 + (if L = L then 0 else b), (if i = c then 0 else totK st1) + b) = some ((i, L), totK st1, (if i = c then 0 else totK st1) + b)
      rw [if_pos rfl, Int.add_zero]
theorem linv_fold (hc : ∀ s t, s ≤ t → kc t = none → kc s = none) (hf : ∀ s t, s ≤ t → kf t = none → kf s = none) (vc : ∀ s y, kc s = some y → y ≠ L) (vf : ∀ s y, kf s = some y → y ≠ L) : ∀ {S : List Int} {top : Int} {st0 st1 st2 : Sk}, S.Pairwise (· ≥ ·) → (∀ s ∈ S, s ≤ top) → (∀ s ∈ S, ¬ (kc s = none ∧ kf s = none)) → LInv L kc kf top st0 st1 st2 →
    ∃ t, LInv L kc kf t (foldK (fun s => some ((kc s).getD L)) (fun s => some ((kf s).getD L)) S st0) (foldK (fun s => some ((kc s).getD L)) kf S st1) (foldK kc (fun s => some ((kf s).getD L)) S st2)
  | [], top, _, _, _, _, _, _, I => ⟨top, I⟩
  | s :: S, top, _, _, _, pw, ht, hk, I => linv_fold (S := S) hc hf vc vf pw.of_cons (fun t ht => List.rel_of_pairwise_cons pw ht) (fun t ht => hk t (List.mem_cons_of_mem _ ht)) (linv_step hc hf vc vf (ht s List.mem_cons_self) (hk s List.mem_cons_self) I)
theorem linv_end {top : Int} {st0 st1 st2 : Sk} (I : LInv L kc kf top st0 st1 st2) : totK (goK L L st0) = totK st1 + totK st2 := by
  rcases I with ⟨rfl, rfl, hk⟩ | ⟨dead, rfl, f, a, hfL, rfl⟩ | ⟨dead, rfl, c, b, hcL, rfl⟩
  · cases st2 with
    | none => rfl
    | some q =>
      obtain ⟨p, x, y⟩ := q
      have := hk p (x, y) rfl
      show (x + (if L = p.2 then 0 else y)) + ((if L = p.1 then 0 else x) + y) = (x + y) + (x + y)
      rw [if_neg fun z : L = p.2 => this.2 z.symm, if_neg fun z : L = p.1 => this.1 z.symm]
  · show (a + (if L = f then 0 else totK st2)) + ((if L = L then 0 else a) + totK st2) = (a + totK st2) + totK st2
    rw [if_neg fun z : L = f => hfL z.symm, if_pos rfl]
    omega
  · show (totK st1 + (if L = L then 0 else b)) + ((if L = c then 0 else totK st1) + b) = totK st1 + (totK st1 + b)
    rw [if_neg fun z : L = c => hcL z.symm, if_pos rfl]
    omega
end
theorem manyC_least {cuts fills : List Int} {L : Int} (h1 : ∀ x ∈ cuts, L < x) (h2 : ∀ x ∈ fills, L < x) : manyC (cuts ++ [L]) (fills ++ [L]) = manyC (cuts ++ [L]) fills + manyC cuts (fills ++ [L]) := by
  have pm := sortD_perm (cuts ++ fills)
  have pw := sortD_pw (cuts ++ fills)
  have mem : ∀ s ∈ sortD (cuts ++ fills), s ∈ cuts ∨ s ∈ fills := fun s hs => List.mem_append.mp (pm.subset hs)
  have low : ∀ s ∈ sortD (cuts ++ fills), L < s := fun s hs => (mem s hs).elim (h1 s) (h2 s)
  generalize sortD (cuts ++ fills) = S at pm pw mem low
  have p1 : (S ++ [L]).Perm ((cuts ++ [L]) ++ fills) := by
    refine (pm.append_right [L]).trans ?_
    rw [List.append_assoc, List.append_assoc]
    exact List.Perm.append_left cuts List.perm_append_comm
  have p2 : (S ++ [L]).Perm (cuts ++ (fills ++ [L])) := by
    rw [← List.append_assoc]; exact pm.append_right [L]
  have p0 : (S ++ [L, L]).Perm ((cuts ++ [L]) ++ (fills ++ [L])) := by
    rw [show S ++ [L, L] = (S ++ [L]) ++ [L] by simp, ← List.append_assoc (cuts ++ [L])]
    exact p1.append_right [L]
  have w1 : (S ++ [L]).Pairwise (· ≥ ·) := List.pairwise_append.mpr ⟨pw, by simp, fun a ha b hb => by
    rw [List.mem_singleton.mp hb]; exact Int.le_of_lt (low a ha)⟩
  have w0 : (S ++ [L, L]).Pairwise (· ≥ ·) := List.pairwise_append.mpr ⟨pw, by simp, fun a ha b hb => by
    have : b = L := by simp at hb; exact hb
    rw [this]; exact Int.le_of_lt (low a ha)⟩
  rw [manyC_of p0 w0, manyC_of p1 w1, manyC_of p2 w1]
  unfold manyK
  rw [foldK_app, foldK_app, foldK_app]
  have nc : fv cuts L = none := fv_none.mpr h1
  have nf : fv fills L = none := fv_none.mpr h2
  have kc : ∀ s, L ≤ s → fv (cuts ++ [L]) s = some ((fv cuts s).getD L) := fun s hs => fv_least hs
  have kf : ∀ s, L ≤ s → fv (fills ++ [L]) s = some ((fv fills s).getD L) := fun s hs => fv_least hs
  have g0 : foldK (fv (cuts ++ [L])) (fv (fills ++ [L])) S none = foldK (fun s => some ((fv cuts s).getD L)) (fun s => some ((fv fills s).getD L)) S none := foldK_congr fun s hs => ⟨kc s (Int.le_of_lt (low s hs)), kf s (Int.le_of_lt (low s hs))⟩
  have g1 : foldK (fv (cuts ++ [L])) (fv fills) S none = foldK (fun s => some ((fv cuts s).getD L)) (fv fills) S none := foldK_congr fun s hs => ⟨kc s (Int.le_of_lt (low s hs)), rfl⟩
  have g2 : foldK (fv cuts) (fv (fills ++ [L])) S none = foldK (fv cuts) (fun s => some ((fv fills s).getD L)) S none := foldK_congr fun s hs => ⟨rfl, kf s (Int.le_of_lt (low s hs))⟩
  rw [g0, g1, g2]
  have one : ∀ st, foldK (fv (cuts ++ [L])) (fv fills) [L] st = st := fun st => by
    show stK _ _ st L = st
    unfold stK
    rw [kc L (Int.le_refl _), nf]
  have two : ∀ st, foldK (fv cuts) (fv (fills ++ [L])) [L] st = st := fun st => by
    show stK _ _ st L = st
    unfold stK
    rw [nc]
  have all : ∀ st, foldK (fv (cuts ++ [L])) (fv (fills ++ [L])) [L, L] st = goK L L st := fun st => by
    show stK _ _ (stK _ _ st L) L = _
    unfold stK
    rw [kc L (Int.le_refl _), kf L (Int.le_refl _), nc, nf]
    exact goK_twice L L st
  rw [one, two, all]
  have hn : ∀ (l : List Int) (s t : Int), s ≤ t → fv l t = none → fv l s = none := fun l s t h e => fv_none.mpr fun x hx => by
    have := fv_none.mp e x hx
    omega
  cases S with
  | nil => rfl
  | cons s0 S0 =>
    obtain ⟨t, I⟩ := linv_fold (L := L) (kc := fv cuts) (kf := fv fills) (hn cuts) (hn fills) (fun s y e => by have := h1 y (fv_mem e).1; omega) (fun s y e => by have := h2 y (fv_mem e).1; omega) (S := s0 :: S0) (top := s0) (st0 := none) (st1 := none) (st2 := none) pw
      (fun s hs => (List.mem_cons.mp hs).elim (fun z => by rw [z]; exact Int.le_refl _) fun h => List.rel_of_pairwise_cons pw h)
      (fun s hs ⟨z1, z2⟩ => by
        rcases mem s hs with h | h
        · have := fv_none.mp z1 s h; omega
        · have := fv_none.mp z2 s h; omega) (.inl ⟨rfl, rfl, fun p m e => nomatch e⟩)
    exact linv_end I
/-! ### by turns -/
def fibG : Nat → Int → Int → Int
  | 0, _, t => t
  | n + 1, u, t => fibG n t (t + u)
def fibL : Nat → Int
  | 0 => 1
  | 1 => 1
  | n + 2 => fibL (n + 1) + fibL n
theorem fib_from : ∀ (n k : Nat), fibG n (fibL k) (fibL (k + 1)) = fibL (k + 1 + n)
  | 0, k => rfl
  | n + 1, k => by
    show fibG n (fibL (k + 1)) (fibL (k + 2)) = _
    rw [fib_from n (k + 1), show k + 1 + 1 + n = k + 1 + (n + 1) by omega]
def Alt : (Int → Option Int) → (Int → Option Int) → List Int → Prop
  | _, _, [] => True
  | _, kf, [x] => kf x = none
  | kc, kf, x :: y :: r => kc x = some x ∧ kf x = some y ∧ Alt kf kc (y :: r)
theorem alt_fold : ∀ {r : List Int} {x y a b : Int} {kc kf : Int → Option Int}, (x :: y :: r).Pairwise (· > ·) → Alt kc kf (y :: r) → totK (foldK kc kf (y :: r) (some ((y, x), a, b))) = fibG r.length b (a + b)
  | [], x, y, a, b, kc, kf, pw, h => by
    have h : kf y = none := h
    show totK (stK kc kf _ y) = _
    unfold stK
    rw [h]
    cases kc y <;> rfl
  | z :: r, x, y, a, b, kc, kf, pw, h => by
    obtain ⟨h1, h2, h3⟩ := h
    have zx : z ≠ x := by
      have : x > z := List.rel_of_pairwise_cons pw (by simp)
      omega
    have e : stK kc kf (some ((y, x), a, b)) y = swK (some ((z, y), b, a + b)) := by
      unfold stK
      rw [h1, h2]
      show some ((y, z), a + (if z = x then 0 else b), (if y = y then 0 else a) + b) = some ((y, z), a + b, b)
      rw [if_neg zx, if_pos rfl, Int.zero_add]
    show totK (foldK kc kf (z :: r) (stK kc kf _ y)) = _
    rw [e, sw_fold kf kc, sw_tot, alt_fold pw.of_cons h3, show b + (a + b) = a + b + b by omega]
    rfl
theorem alt_all {kc kf : Int → Option Int} : ∀ {l : List Int}, l.Pairwise (· > ·) → Alt kc kf l → totK (foldK kc kf l none) = fibL l.length
  | [], _, _ => rfl
  | [x], _, h => by
    have h : kf x = none := h
    show totK (stK kc kf none x) = _
    unfold stK
    rw [h]
    cases kc x <;> rfl
  | x :: y :: r, pw, h => by
    obtain ⟨h1, h2, h3⟩ := h
    have e : stK kc kf none x = swK (some ((y, x), 1, 1)) := by
      unfold stK
      rw [h1, h2]; rfl
    show totK (foldK kc kf (y :: r) (stK kc kf none x)) = _
    rw [e, sw_fold kf kc, sw_tot, alt_fold pw h3]
    have := fib_from r.length 1
    rw [show 1 + 1 + r.length = r.length + 2 by omega] at this
    exact this
theorem ev2_cons (x : Int) (r : List Int) : L2.ev2 (x :: r) = x :: L2.ev2 (r.drop 1) := by cases r <;> rfl
theorem alt_keys : ∀ {l A B : List Int}, l.Pairwise (· > ·) → (∀ a ∈ A, ∀ x ∈ l, x < a) → (∀ a ∈ B, ∀ x ∈ l, x < a) → Alt (fv (A ++ L2.ev2 l)) (fv (B ++ L2.ev2 (l.drop 1))) l
  | [], _, _, _, _, _ => trivial
  | [x], A, B, _, _, hB => by
    show fv (B ++ []) x = none
    rw [List.append_nil]
    exact fv_none.mpr fun y hy => hB y hy x List.mem_cons_self
  | x :: y :: r, A, B, pw, hA, hB => by
    have yx : y < x := List.rel_of_pairwise_cons pw List.mem_cons_self
    refine ⟨?_, ?_, ?_⟩
    · rw [fv_skip fun a ha => hA a ha x List.mem_cons_self, ev2_cons]
      show (if x ≤ x then some x else _) = _
      rw [if_pos (Int.le_refl _)]
    · show fv (B ++ L2.ev2 (y :: r)) x = some y
      rw [fv_skip fun a ha => hB a ha x List.mem_cons_self, ev2_cons]
      show (if y ≤ x then some y else _) = _
      rw [if_pos (Int.le_of_lt yx)]
    · have := alt_keys (l := y :: r) (A := B) (B := A ++ [x]) pw.of_cons (fun a ha z hz => hB a ha z (List.mem_cons_of_mem _ hz)) (fun a ha z hz => by
        rcases List.mem_append.mp ha with h | h
        · exact hA a h z (List.mem_cons_of_mem _ hz)
        · rw [List.mem_singleton.mp h]; exact List.rel_of_pairwise_cons pw hz)
      rw [List.append_assoc] at this
      rw [ev2_cons x (y :: r)]
      exact this
theorem ev2_perm : ∀ l : List Int, (L2.ev2 l ++ L2.ev2 (l.drop 1)).Perm l
  | [] => .refl _
  | x :: t => by
    rw [ev2_cons]
    show (x :: (L2.ev2 (t.drop 1) ++ L2.ev2 t)).Perm (x :: t)
    exact .cons x (List.perm_append_comm.trans (ev2_perm t))
theorem manyC_turns {l : List Int} (pw : l.Pairwise (· > ·)) : manyC (L2.ev2 l) (L2.ev2 (l.drop 1)) = fibL l.length := by
  rw [manyC_of (ev2_perm l).symm (pw.imp fun h => Int.le_of_lt h)]
  have := alt_keys (A := []) (B := []) pw (by simp) (by simp)
  exact alt_all pw this
/-! ### all cuts ahead -/
theorem block_fold {kc kf : Int → Option Int} {f : Int} : ∀ {C : List Int} {p k : Int}, (p :: C).Pairwise (· > ·) → (∀ c ∈ C, kc c = some c ∧ kf c = some f) → ∃ q, foldK kc kf C (some ((p, f), 1, k)) = some ((q, f), 1, k + C.length)
  | [], p, k, _, _ => ⟨p, by show some _ = some _; simp⟩
  | c :: C, p, k, pw, h => by
    obtain ⟨h1, h2⟩ := h c List.mem_cons_self
    have : c ≠ p := by
      have : p > c := List.rel_of_pairwise_cons pw List.mem_cons_self
      omega
    obtain ⟨q, e⟩ := block_fold (k := 1 + k) pw.of_cons fun d hd => h d (List.mem_cons_of_mem _ hd)
    refine ⟨q, ?_⟩
    show foldK kc kf C (stK kc kf _ c) = _
    have e2 : stK kc kf (some ((p, f), 1, k)) c = some ((c, f), 1, 1 + k) := by
      unfold stK
      rw [h1, h2]
      show some ((c, f), 1 + (if f = f then 0 else k), (if c = p then 0 else 1) + k) = _
      rw [if_pos rfl, if_neg this]; rfl
    rw [e2, e]
    have : (1 + k + (C.length : Int)) = k + ((c :: C).length : Int) := by
      show _ = k + ((C.length + 1 : Nat) : Int); omega
    rw [this]
theorem fv_desc : ∀ {l : List Int} {c : Int}, l.Pairwise (· > ·) → c ∈ l → fv l c = some c
  | x :: r, c, pw, h => by
    show (if x ≤ c then some x else fv r c) = _
    rcases List.mem_cons.mp h with rfl | h
    · rw [if_pos (Int.le_refl _)]
    · have : x > c := List.rel_of_pairwise_cons pw h
      rw [if_neg (by omega), fv_desc pw.of_cons h]
theorem manyC_block {C F : List Int} (pw : (C ++ F).Pairwise (· > ·)) (hF : F ≠ []) : manyC C F = 1 + C.length := by
  rw [manyC_of (.refl _) (pw.imp fun h => Int.le_of_lt h)]
  obtain ⟨pc, pf, cf⟩ := List.pairwise_append.mp pw
  cases F with
  | nil => exact absurd rfl hF
  | cons f F =>
    unfold manyK
    rw [foldK_app]
    have skip : ∀ (G : List Int) (st : Sk), (∀ g ∈ G, g ∈ f :: F) → foldK (fv C) (fv (f :: F)) G st = st := by
      intro G
      induction G with
      | nil => intro st _; rfl
      | cons g G ih =>
        intro st h
        show foldK _ _ G (stK _ _ st g) = st
        have n : fv C g = none := fv_none.mpr fun c hc => cf c hc g (h g List.mem_cons_self)
        have e : stK (fv C) (fv (f :: F)) st g = st := by unfold stK; rw [n]
        rw [e, ih st fun z hz => h z (List.mem_cons_of_mem _ hz)]
    rw [skip _ _ fun g hg => hg]
    have kf : ∀ c ∈ C, fv (f :: F) c = some f := fun c hc => by
      show (if f ≤ c then some f else _) = _
      have : c > f := cf c hc f List.mem_cons_self
      rw [if_pos (by omega)]
    cases C with
    | nil => rfl
    | cons c C =>
      have e : stK (fv (c :: C)) (fv (f :: F)) none c = some ((c, f), 1, 1) := by
        unfold stK
        rw [fv_desc pc List.mem_cons_self, kf c List.mem_cons_self]
        rfl
      obtain ⟨q, e2⟩ := block_fold (kc := fv (c :: C)) (kf := fv (f :: F)) (f := f) (k := 1) pc fun d hd => ⟨fv_desc pc (List.mem_cons_of_mem _ hd), kf d (List.mem_cons_of_mem _ hd)⟩
      show totK (foldK _ _ C (stK _ _ none c)) = _
      rw [e, e2]
      show (1 : Int) + (1 + C.length) = 1 + ((C.length + 1 : Nat) : Int)
      omega
end Pl
namespace Pl
def Le2 (p q : Nat × Nat) : Prop := p.1 ≤ q.1 ∧ p.2 ≤ q.2
theorem meet_rise {cuts fills : List Int} : ∀ {S : List Int} {acc : List (Nat × Nat)} {top : Int}, S.Pairwise (· ≥ ·) → (∀ s ∈ S, s ≤ top) → Met cuts fills top acc → acc.Pairwise Le2 →
    (meetF cuts fills S acc).Pairwise Le2 ∧ (meetF cuts fills S acc).length ≤ acc.length + S.length
  | [], acc, top, _, _, _, hr => ⟨hr, Nat.le_refl _⟩
  | s :: S, acc, top, hp, ht, hM, hr => by
    have hp1 : ∀ t ∈ S, t ≤ s := fun t ht => List.rel_of_pairwise_cons hp ht
    have hp2 := hp.of_cons
    have hs := ht s List.mem_cons_self
    have low : Met cuts fills s acc := by
      rcases hM with h | ⟨a, p, t, h1, h2, h3⟩
      · exact .inl h
      · exact .inr ⟨a, p, t, h1, Int.le_trans hs h2, h3⟩
    have more : ∀ {acc : List (Nat × Nat)}, (meetF cuts fills S acc).Pairwise Le2 ∧ (meetF cuts fills S acc).length ≤ acc.length + S.length → (meetF cuts fills S acc).Pairwise Le2 ∧ (meetF cuts fills S acc).length ≤ acc.length + (S.length + 1) := fun h => ⟨h.1, by have := h.2; omega⟩
    show (meetF cuts fills (s :: S) acc).Pairwise Le2 ∧ (meetF cuts fills (s :: S) acc).length ≤ acc.length + (S.length + 1)
    unfold meetF
    cases e1 : fg cuts s with
    | none => exact more (meet_rise hp2 hp1 low hr)
    | some i =>
      cases e2 : fg fills s with
      | none => exact more (meet_rise hp2 hp1 low hr)
      | some j =>
        show (if (i, j) ∈ acc then meetF cuts fills S acc else meetF cuts fills S (acc ++ [(i, j)])).Pairwise Le2 ∧ (if (i, j) ∈ acc then meetF cuts fills S acc else meetF cuts fills S (acc ++ [(i, j)])).length ≤ _
        by_cases hin : (i, j) ∈ acc
        · rw [if_pos hin]; exact more (meet_rise hp2 hp1 low hr)
        · rw [if_neg hin]
          have up : ∀ q ∈ acc, q.1 ≤ i ∧ q.2 ≤ j := fun q hq => by
            rcases low with h | ⟨a, p, t, h1, h2, h3, h4, h5⟩
            · subst h; exact absurd hq (by simp)
            · have := h5 q hq
              exact ⟨Nat.le_trans this.1 (fg_mono h2 h3 e1), Nat.le_trans this.2 (fg_mono h2 h4 e2)⟩
          have M2 : Met cuts fills s (acc ++ [(i, j)]) := .inr ⟨acc, (i, j), s, rfl, Int.le_refl _, e1, e2, fun q hq => by
            rcases List.mem_append.mp hq with hq | hq
            · exact up q hq
            · rw [List.mem_singleton.mp hq]; exact ⟨Nat.le_refl _, Nat.le_refl _⟩⟩
          have R2 : (acc ++ [(i, j)]).Pairwise Le2 := List.pairwise_append.mpr ⟨hr, by simp, fun a ha b hb => by
            rw [List.mem_singleton.mp hb]; exact up a ha⟩
          have := meet_rise hp2 hp1 M2 R2
          refine ⟨this.1, ?_⟩
          have := this.2
          rw [List.length_append] at this
          simp at this
          omega
def meetL (cuts fills : List Int) : List (Nat × Nat) := meetF cuts fills (sortD (cuts ++ fills)) []
theorem meetL_rise (cuts fills : List Int) : (meetL cuts fills).Pairwise Le2 ∧ (meetL cuts fills).length ≤ cuts.length + fills.length := by
  have hl : (sortD (cuts ++ fills)).length = cuts.length + fills.length := by rw [(sortD_perm _).length_eq, List.length_append]
  have hp := sortD_pw (cuts ++ fills)
  unfold meetL
  rw [← hl]
  generalize sortD (cuts ++ fills) = S at hp
  cases S with
  | nil => exact ⟨.nil, Nat.le_refl _⟩
  | cons s r =>
    have := meet_rise (cuts := cuts) (fills := fills) (S := s :: r) (acc := []) (top := s) hp (fun t ht => (List.mem_cons.mp ht).elim (fun e => by subst e; exact Int.le_refl _) fun h => List.rel_of_pairwise_cons hp h) (.inl rfl) .nil
    rw [List.length_nil, Nat.zero_add] at this
    exact this
theorem manyC_meet (cuts fills : List Int) : manyC cuts fills = totN ((meetL cuts fills).foldl goN none) := (many_meet (sortD_pw _)).symm
end Pl
namespace Pl
open PySem PySem.Spec PyProof.Rows L2
/-! ### any of a list of Nones -/
section
variable {X : Cx}
theorem truth_nones {prog : Program} {w : World} {A : Around} {its : List Value} (e : ∀ v ∈ its, v = Value.none) : TruthOf prog w A (fun i v => its.toArray[i]? = some v) (fun _ => false) := fun i v s Q E hv hq => by
  have hm : its[i]? = some v := by simpa using hv
  rw [e v (List.mem_of_getElem? hm)]
  exact PyProof.Rows.truthy_none hq
def rAnyN (K : PySem.W.Frag) : List V → Hp → VK → Prop := fun vs H Q => ∃ (a : Addr) (xs : List V), vs = [V.ref a] ∧ SqL K H a xs ∧ (∀ x ∈ xs, x = V.non) ∧ Q (.bl false) H
theorem nones_of : ∀ {xs : List V} {us : List Value}, Vals xs us → (∀ x ∈ xs, x = V.non) → ∀ u ∈ us, u = Value.none
  | _, _, .nil, _, u, h => by cases h
  | _, _, .cons r rs, e, u, h => by
    rcases List.mem_cons.mp h with z | z
    · have q := e _ (List.mem_cons_self ..)
      subst q
      rw [z]; exact r
    · exact nones_of rs (fun x hx => e x (List.mem_cons_of_mem _ hx)) u z
theorem cr_anyN (hc : X.calm = true) : CallR X (.builtin "any") (rAnyN X.K) := by
  intro pins s σ H vs us Q I r h
  obtain ⟨a, xs, rfl, hs, e, q⟩ := h
  obtain ⟨its, rv, hl, _⟩ := I.list hs
  rw [Vals.ref1 r]
  have hn := nones_of rv e
  apply call_any_walk
  apply iter_any hl.isList
  intro s2 e2 st ne
  rw [e2] at st ⊢
  refine ⟨_, _, _, _, _, _, _, rfl, Walks.list (A := X.A.in1) (I.ok.hd hc) _ a ne its.toArray, st, truth_nones hn, fun h' tk hk => ⟨.bl false, H, ?_, ?_, q⟩⟩
  · refine I.kept fun b o eo => hk b o (fun m => ?_) (Heap.get?_push_of_some _ eo)
    rcases List.mem_cons.mp m with z | z
    · rw [z] at eo; exact Nat.lt_irrefl _ (Heap.lt_size eo)
    · cases z
  · show Value.bool _ = Value.bool false
    rw [List.any_eq_false.mpr fun _ _ => by decide]
def fAnyN : FC := fun ds Q => match ds with
  | [.lst xs] => (∀ x ∈ xs, x = D.non) ∧ Q (.bl false)
  | _ => False
theorem nones_rep {K : PySem.W.Frag} {F : Hp} : ∀ {vs : List V} {ds : List D}, Reps K F vs ds → (∀ x ∈ ds, x = D.non) → ∀ x ∈ vs, x = V.non
  | _, _, .nil, _, u, h => by cases h
  | _, _, .cons r rs, e, u, h => by
    rcases List.mem_cons.mp h with z | z
    · have q := e _ (List.mem_cons_self ..)
      subst q
      rw [z]; cases r; rfl
    · exact nones_rep rs (fun x hx => e x (List.mem_cons_of_mem _ hx)) u z
theorem cp_anyN {K : PySem.W.Frag} : CallP K (rAnyN K) fAnyN := fun F H xs ds Q R hs r hf k => by
  unfold fAnyN at hf
  split at hf
  · obtain ⟨v, rfl, q1⟩ := r.inv1
    obtain ⟨a, vs, rfl, e, q2⟩ := q1.lstInv
    exact ⟨a, vs, rfl, SqL.of (hs _ _ e), nones_rep q2 hf.1, k _ _ F H (.old (.bl _)) hf.2⟩
  · exact hf.elim
end
end Pl
namespace Pl
open PySem PySem.Spec PyProof.Rows L2
/-! ### str of a number, a truth, None -/
def fStrV : FC := fun ds Q => match ds with
  | [.int i] => i.natAbs.log2 < 1920 ∧ Q (.str (toString i))
  | [.bl b] => Q (.str (if b then "True" else "False"))
  | [.non] => Q (.str "None")
  | _ => False
theorem call_strV {X : Cx} : CallR X (.type "str") (fun xs H Q => (∃ i, xs = [.int i] ∧ i.natAbs.log2 < 1920 ∧ Q (.str (toString i)) H) ∨ (∃ b : Bool, xs = [.bl b] ∧ Q (.str (if b then "True" else "False")) H) ∨ (xs = [.non] ∧ Q (.str "None") H)) := by
  intro pins s σ H xs us Q I r h
  rcases h with ⟨i, rfl, hz, q⟩ | ⟨b, rfl, q⟩ | ⟨rfl, q⟩
  · obtain ⟨u, rfl, t, rfl⟩ := vals1 r
    exact PySem.P.str_of_int hz ⟨.str _, H, I.tok _, ⟨_, rfl⟩, q⟩
  · obtain ⟨u, rfl, r1⟩ := vals1 r
    cases r1
    exact PySem.P.str_of_bool ⟨.str _, H, I.tok _, ⟨_, rfl⟩, q⟩
  · obtain ⟨u, rfl, r1⟩ := vals1 r
    cases r1
    exact PySem.P.str_of_none ⟨.str _, H, I.tok _, ⟨_, rfl⟩, q⟩
theorem cp_strV {K : PySem.W.Frag} : CallP K (fun xs H Q => (∃ i, xs = [.int i] ∧ i.natAbs.log2 < 1920 ∧ Q (.str (toString i)) H) ∨ (∃ b : Bool, xs = [.bl b] ∧ Q (.str (if b then "True" else "False")) H) ∨ (xs = [.non] ∧ Q (.str "None") H)) fStrV := fun F H xs ds Q R hs r hf k => by
  match ds, r, hf with
  | [.int i], .cons r1 .nil, hf =>
    cases r1
    exact .inl ⟨i, rfl, hf.1, k _ _ F H (.old (.str _)) hf.2⟩
  | [.bl b], .cons r1 .nil, hf =>
    cases r1
    exact .inr (.inl ⟨b, rfl, k _ _ F H (.old (.str _)) hf⟩)
  | [.non], .cons r1 .nil, hf =>
    cases r1
    exact .inr (.inr ⟨rfl, k _ _ F H (.old (.str _)) hf⟩)
end Pl
namespace Pl
open PySem PySem.Spec PyProof.Rows L2
variable [TJ]
/-! ### a list of own lists: x = [f(..), g(..)], looked at, x[0].append(..), x[1].reverse() -/
def NEl (K : PySem.W.Frag) (G F H : Hp) (ρ : Ro) (p : Addr) (xs : List D) : Prop := F p = none ∧ G p = none ∧ NotOwn ρ p ∧ ∃ us, H p = some (.lst us) ∧ Reps K F us xs
structure Nst (K : PySem.W.Frag) (G F H : Hp) (σ : L2.St) (ρ : Ro) (i : Nat) (q : Addr) (es : List (Addr × List D)) : Prop where
  sl : σ[i]? = some (some (.ref q))
  z : ρ[i]? = some none
  nf : F q = none
  ng : G q = none
  no : NotOwn ρ q
  hq : H q = some (.lst (es.map fun e => V.ref e.1))
  el : ∀ e ∈ es, NEl K G F H ρ e.1 e.2
  nd : (q :: es.map (·.1)).Nodup
def SndN (K : PySem.W.Frag) (i : Nat) (t : TS) (U : List (List D) → TSp) : Prop := ∀ (G F H : Hp) (σ : L2.St) (ρ : Ro) (P : PEnds) (E : Ends) (q : Addr) (es : List (Addr × List D)), Sim K G F H σ ρ → Nst K G F H σ ρ i q es → U (es.map (·.2)) P ρ → ERel K G F P E → t E σ H
structure PPN (X : Cx) (i : Nat) (st : List Stmt) (t : TS) (U : List (List D) → TSp) : Prop where
  ps : PSs X st t
  snd : SndN X.K i t U
open Classical in
noncomputable def plusG (G H : Hp) (as : List Addr) : Hp := fun b => if b ∈ as then H b else G b
theorem plus_in {G H : Hp} {as : List Addr} {b : Addr} (h : b ∈ as) : plusG G H as b = H b := by unfold plusG; rw [if_pos h]
theorem plus_out {G H : Hp} {as : List Addr} {b : Addr} (h : b ∉ as) : plusG G H as b = G b := by unfold plusG; rw [if_neg h]
section
variable {K : PySem.W.Frag} {G F H F1 H1 : Hp} {σ : L2.St} {ρ ρ1 : Ro} {i : Nat} {q : Addr} {es : List (Addr × List D)}
theorem Sim.rebase (S : Sim K G F H σ ρ) (hF : Same F H1) (hG : SameJ G F H1) (ho : ∀ b, isOwn ρ b → H1 b = H b) : Sim K G F H1 σ ρ :=
  ⟨hF, hG, S.len, S.val, fun i a xs e => by
    obtain ⟨h1, h2, h3, vs, h4, h5⟩ := S.own i a xs e
    exact ⟨h1, h2, h3, vs, by rw [ho a ⟨i, xs, e⟩]; exact h4, h5⟩, S.ne⟩
abbrev adrs (q : Addr) (es : List (Addr × List D)) : List Addr := q :: es.map (·.1)
theorem Nst.free (N : Nst K G F H σ ρ i q es) {b : Addr} (h : b ∈ adrs q es) : F b = none ∧ G b = none ∧ NotOwn ρ b ∧ ∃ us, H b = some (.lst us) := by
  rcases List.mem_cons.mp h with e | h
  · subst e; exact ⟨N.nf, N.ng, N.no, _, N.hq⟩
  · obtain ⟨e, he, rfl⟩ := List.mem_map.mp h
    obtain ⟨h1, h2, h3, us, h4, _⟩ := N.el e he
    exact ⟨h1, h2, h3, us, h4⟩
theorem Nst.same {A : Hp} (N : Nst K G F H σ ρ i q es) (h : ∀ b ∈ adrs q es, A b = none) : Same A (plusG A H (adrs q es)) := fun b o e => by
  rw [plus_out fun z => by rw [h b z] at e; cases e]; exact e
theorem Nst.guard (S : Sim K G F H σ ρ) (N : Nst K G F H σ ρ i q es) : Sim K (plusG G H (adrs q es)) F H σ ρ :=
  ⟨S.hF, ⟨fun b o e => by
    by_cases h : b ∈ adrs q es
    · rw [plus_in h] at e; exact e
    · rw [plus_out h] at e; exact S.hG b o e, TJ.frame S.hG.tj fun b o e => by
    by_cases h : b ∈ adrs q es
    · obtain ⟨_, _, _, us, h4⟩ := N.free h
      exact .inr ⟨us, h4⟩
    · rw [plus_out h] at e; exact .inl e⟩, S.len, S.val, fun j a xs e => by
    obtain ⟨h1, h2, h3, h4⟩ := S.own j a xs e
    exact ⟨h1, h2, by rw [plus_out fun z => (N.free z).2.2.1 j xs e]; exact h3, h4⟩, S.ne⟩
theorem Nst.back (N : Nst K G F H σ ρ i q es) (u : Up (plusG G H (adrs q es)) F F1) (S1 : Sim K (plusG G H (adrs q es)) F1 H1 σ ρ1) (hz : ρ1[i]? = some none) : Up G F F1 ∧ Sim K G F1 H1 σ ρ1 ∧ Nst K G F1 H1 σ ρ1 i q es := by
  have sm : Same G (plusG G H (adrs q es)) := N.same fun b h => (N.free h).2.1
  have hH : ∀ b ∈ adrs q es, H1 b = H b := fun b h => by
    obtain ⟨_, _, _, us, h4⟩ := N.free h
    rw [h4]; exact S1.hG b _ (by rw [plus_in h]; exact h4)
  have hF1 : ∀ b ∈ adrs q es, F1 b = none := fun b h => by
    obtain ⟨h1, _, _, us, h4⟩ := N.free h
    exact u.isNone h1 (by rw [plus_in h]; exact h4)
  have hn : ∀ b ∈ adrs q es, NotOwn ρ1 b := fun b h j ys e => by
    obtain ⟨_, _, _, us, h4⟩ := N.free h
    have := (S1.own j b ys e).2.2.1
    rw [plus_in h, h4] at this; cases this
  have mq : q ∈ adrs q es := by simp
  have me : ∀ e ∈ es, e.1 ∈ adrs q es := fun e he => List.mem_cons_of_mem _ (List.mem_map.mpr ⟨e, he, rfl⟩)
  refine ⟨u.less sm, ⟨S1.hF, S1.hG.less sm, S1.len, S1.val, fun j a xs e => ?_, S1.ne⟩, ⟨N.sl, hz, hF1 q mq, N.ng, hn q mq, by rw [hH q mq]; exact N.hq, fun e he => ?_, N.nd⟩⟩
  · obtain ⟨h1, h2, h3, h4⟩ := S1.own j a xs e
    exact ⟨h1, h2, sm.free h3, h4⟩
  · obtain ⟨h1, h2, h3, us, h4, h5⟩ := N.el e he
    exact ⟨hF1 _ (me e he), h2, hn _ (me e he), us, by rw [hH _ (me e he)]; exact h4, h5.mono u.ex⟩
/-- one of the lists is changed -/
theorem Nst.mut (S : Sim K G F H σ ρ) (N : Nst K G F H σ ρ i q es) {j : Nat} {e : Addr × List D} {vs : List V} {ys : List D} (he : es[j]? = some e) (r : Reps K F vs ys) :
    Sim K G F (upd H e.1 (.lst vs)) σ ρ ∧ Nst K G F (upd H e.1 (.lst vs)) σ ρ i q (es.set j (e.1, ys)) := by
  have hm : e ∈ es := List.mem_of_getElem? he
  obtain ⟨h1, h2, h3, us, h4, h5⟩ := N.el e hm
  have hj : j < es.length := by
    rcases Nat.lt_or_ge j es.length with h | h
    · exact h
    · rw [List.getElem?_eq_none h] at he; cases he
  have nq : q ≠ e.1 := fun z => (List.nodup_cons.mp N.nd).1 (z ▸ List.mem_map.mpr ⟨e, hm, rfl⟩)
  have em : (es.set j (e.1, ys)).map (fun x => x.1) = es.map (fun x => x.1) := by
    rw [List.map_set]
    refine List.ext_getElem? fun k => ?_
    by_cases hk : j = k
    · subst hk
      rw [List.getElem?_set_self (by rw [List.length_map]; exact hj), List.getElem?_map, he]; rfl
    · rw [List.getElem?_set_ne hk]
  refine ⟨S.rebase (fun b o z => ?_) (S.hG.mut h2 h4) (fun b ⟨k, xs, z⟩ => ?_), ⟨N.sl, N.z, N.nf, N.ng, N.no, ?_, fun x hx => ?_, by rw [em]; exact N.nd⟩⟩
  · rw [upd_ne fun y => by subst y; rw [h1] at z; cases z]; exact S.hF b o z
  · rw [upd_ne fun y => by subst y; exact h3 k xs z]
  · rw [upd_ne nq, N.hq]
    have : (es.set j (e.1, ys)).map (fun x => V.ref x.1) = es.map (fun x => V.ref x.1) := by
      have := congrArg (List.map V.ref) em
      rw [List.map_map, List.map_map] at this; exact this
    rw [this]
  · rcases List.mem_or_eq_of_mem_set hx with hx' | hx'
    · by_cases hxe : x.1 = e.1
      · -- the same list: it stands at the same place
        obtain ⟨k, hk⟩ := List.getElem?_of_mem hx
        by_cases hjk : j = k
        · subst hjk
          rw [List.getElem?_set_self hj] at hk
          cases hk
          exact ⟨h1, h2, h3, vs, upd_same, r⟩
        · rw [List.getElem?_set_ne hjk] at hk
          have nd := (List.nodup_cons.mp N.nd).2
          have a1 : (es.map (·.1))[j]? = some e.1 := by rw [List.getElem?_map, he]; rfl
          have a2 : (es.map (·.1))[k]? = some x.1 := by rw [List.getElem?_map, hk]; rfl
          have hkl : k < (es.map (·.1)).length := by
            rcases Nat.lt_or_ge k (es.map (·.1)).length with h | h
            · exact h
            · rw [List.getElem?_eq_none h] at a2; cases a2
          exact absurd ((List.getElem?_inj (by rw [List.length_map]; exact hj) nd).mp (by rw [a1, a2, hxe])) hjk
      · obtain ⟨g1, g2, g3, ws, g4, g5⟩ := N.el x hx'
        exact ⟨g1, g2, g3, ws, by rw [upd_ne hxe]; exact g4, g5⟩
    · subst hx'
      exact ⟨h1, h2, h3, vs, upd_same, r⟩
theorem reps_refs {A : Hp} : ∀ {es : List (Addr × List D)}, (∀ e ∈ es, ∃ us, A e.1 = some (.lst us) ∧ Reps K A us e.2) → Reps K A (es.map fun e => V.ref e.1) ((es.map (·.2)).map D.lst)
  | [], _ => .nil
  | e :: es, h => by
    obtain ⟨us, h1, h2⟩ := h e (by simp)
    exact .cons (.lst h1 h2) (reps_refs fun x hx => h x (by simp [hx]))
/-- a look: all of it frozen -/
theorem Nst.look (S : Sim K G F H σ ρ) (N : Nst K G F H σ ρ i q es) : Up G F (plusG F H (adrs q es)) ∧ Sim K G (plusG F H (adrs q es)) H σ (ρ.set i (some (.val (.lst ((es.map (·.2)).map D.lst))))) := by
  have sm : Same F (plusG F H (adrs q es)) := N.same fun b h => (N.free h).1
  have hi : i < ρ.length := by
    rcases Nat.lt_or_ge i ρ.length with h | h
    · exact h
    · have := N.z; rw [List.getElem?_eq_none h] at this; cases this
  have mq : q ∈ adrs q es := by simp
  have me : ∀ e ∈ es, e.1 ∈ adrs q es := fun e he => List.mem_cons_of_mem _ (List.mem_map.mpr ⟨e, he, rfl⟩)
  have S1 : Sim K G (plusG F H (adrs q es)) H σ ρ := ⟨fun b o e => by
      by_cases h : b ∈ adrs q es
      · rw [plus_in h] at e; exact e
      · rw [plus_out h] at e; exact S.hF b o e, S.hG.froz fun b o e => by
      by_cases h : b ∈ adrs q es
      · obtain ⟨_, _, _, us, h4⟩ := N.free h
        exact .inr ⟨us, h4⟩
      · rw [plus_out h] at e; exact .inl e, S.len, fun j d e => by
      obtain ⟨v, h1, h2⟩ := S.val j d e
      exact ⟨v, h1, h2.mono sm⟩, fun j a xs e => by
      obtain ⟨h1, h2, h3, vs, h4, h5⟩ := S.own j a xs e
      exact ⟨h1, by rw [plus_out fun z => (N.free z).2.2.1 j xs e]; exact h2, h3, vs, h4, h5.mono sm⟩, S.ne⟩
  refine ⟨⟨sm, fun b o e => ?_⟩, ?_⟩
  · by_cases h : b ∈ adrs q es
    · exact .inr (N.free h).2.1
    · rw [plus_out h] at e; exact .inl e
  · have S2 := S1.setVal i (v := .ref q) (d := .lst ((es.map (·.2)).map D.lst)) (.lst (by rw [plus_in mq]; exact N.hq) (reps_refs fun e he => by
      obtain ⟨h1, h2, h3, us, h4, h5⟩ := N.el e he
      exact ⟨us, by rw [plus_in (me e he)]; exact h4, h5.mono sm⟩))
    have : σ.set i (some (.ref q)) = σ := by
      refine List.ext_getElem? fun k => ?_
      by_cases hk : i = k
      · subst hk; rw [List.getElem?_set_self (by rw [S.len]; exact hi), N.sl]
      · rw [List.getElem?_set_ne hk]
    rw [this] at S2; exact S2
end
section
variable {X : Cx} {i : Nat} {st a rest : List Stmt} {t u : TS} {T : TSp} {U : List (List D) → TSp} {e : Expr} {es : List Expr} {te : TE} {ta : TA} {Te : TEp} {Tc : TCs} {pos : Pos}
def ownsOf : List Cell → Option (List (Addr × List D))
  | [] => some []
  | .own p xs :: cs => match ownsOf cs with | some l => some ((p, xs) :: l) | none => none
  | .val _ :: _ => none
theorem cells_own {K : PySem.W.Frag} {G F H : Hp} {ρ : Ro} : ∀ {vs : List V} {cs : List Cell} {l : List (Addr × List D)}, CellsOk K G F H ρ vs cs → ownsOf cs = some l → vs = l.map (fun e => V.ref e.1) ∧ (∀ e ∈ l, NEl K G F H ρ e.1 e.2) ∧ (l.map (·.1)).Nodup ∧ ∀ e ∈ l, Cell.own e.1 e.2 ∈ cs
  | [], [], l, _, h => by cases h; exact ⟨rfl, fun e he => by simp at he, by simp, fun e he => by simp at he⟩
  | v :: vs, .own p xs :: cs, l, o, h => by
    unfold ownsOf at h
    cases hc : ownsOf cs with
    | none => rw [hc] at h; cases h
    | some l' =>
      rw [hc] at h
      have h : some ((p, xs) :: l') = some l := h
      cases h
      obtain ⟨h1, h2, h3, h4⟩ := cells_own o.2.1 hc
      obtain ⟨g1, g2, g3, g4, us, g5, g6⟩ := o.1
      refine ⟨by rw [g1, h1]; rfl, fun e he => ?_, ?_, fun e he => ?_⟩
      · rcases List.mem_cons.mp he with z | he
        · subst z; exact ⟨g2, g3, g4, us, g5, g6⟩
        · exact h2 e he
      · show (p :: l'.map (·.1)).Nodup
        refine List.nodup_cons.mpr ⟨fun hp => ?_, h3⟩
        obtain ⟨e, he, z⟩ := List.mem_map.mp hp
        exact o.2.2 p xs rfl e.1 e.2 (h4 e he) z
      · rcases List.mem_cons.mp he with z | he
        · subst z; exact List.mem_cons_self
        · exact List.mem_cons_of_mem _ (h4 e he)
  | v :: vs, .val d :: cs, l, _, h => by cases h
  | [], _ :: _, _, o, _ => o.elim
  | _ :: _, [], _, o, _ => o.elim
def pNest (i : Nat) (Tc : TCs) (U : List (List D) → TSp) : TSp := fun P ρ => Tc ρ fun cs ρ1 => match ownsOf cs with
  | some l => l.length ≤ sizeLine ∧ i < ρ1.length ∧ U (l.map (·.2)) P (ρ1.set i none)
  | none => False
theorem NEl.more {K : PySem.W.Frag} {G F H : Hp} {ρ : Ro} {p r : Addr} {xs : List D} {o : HO} {i : Nat} (h : NEl K G F H ρ p xs) (hr : H r = none) : NEl K G F (upd H r o) (ρ.set i none) p xs := by
  obtain ⟨h1, h2, h3, us, h4, h5⟩ := h
  refine ⟨h1, h2, fun j ys e => ?_, us, by rw [upd_ne (ne_of_none h4 hr)]; exact h4, h5⟩
  by_cases hj : i = j
  · subst hj
    by_cases hi : i < ρ.length
    · rw [List.getElem?_set_self hi] at e; cases e
    · rw [List.getElem?_eq_none (by simpa using hi)] at e; cases e
  · rw [List.getElem?_set_ne hj] at e; exact h3 j ys e
theorem ppss_nest {x : Str} {pos' lp : Pos} (hN : X.N.Nodup) (he : PPCs X es ta Tc) (h2 : PPN X i rest u U) (hi : X.N[i]? = some x := by rfl) (hx : Loc X.env.scope x := by first | exact Or.inl rfl | exact Or.inr rfl)
    (hs : swapsWith (.List es lp) (some (.Name x pos')) pos.line X.env = pure false := by rfl) (hf : X.fn x = true ∨ X.env.scope.names.lookup x = some .local := by first | exact .inl rfl | exact .inr rfl | assumption) :
    PPSs X (.Assign [.Name x pos'] (.List es lp) pos :: rest) (tSeq (tAsg (tLst ta) (gName i)) u) (pNest i Tc U) := ⟨pss_cons (ps_set hN hi hx (pe_lst he.pa) hs hf) h2.ps, fun G F H σ ρ P D S hT r =>
  he.snd G F H σ ρ _ _ S hT fun vs cs F' H' ρ' u' S' o q => by
    split at q
    · rename_i l hl
      obtain ⟨q1, q2, q3⟩ := q
      obtain ⟨rfl, g2, g3, g4⟩ := cells_own o hl
      refine ⟨by rw [List.length_map]; exact q1, fun p hp => ?_⟩
      have S1 := (S'.more (o := .lst (l.map fun e => V.ref e.1)) hp).forget i (some (.ref p))
      refine h2.snd G F' _ _ _ P D p l S1 ⟨List.getElem?_set_self (by rw [S'.len]; exact q2), List.getElem?_set_self q2, S'.freshF hp, S'.freshG hp, ?_, upd_same, fun e he => (g2 e he).more hp, ?_⟩ q3 (r.mono u')
      · have := (S1.len : _)
        intro j ys e
        obtain ⟨_, _, _, vs, h4, _⟩ := S1.own j p ys e
        have hj : i ≠ j := fun z => by subst z; rw [List.getElem?_set_self q2] at e; cases e
        rw [List.getElem?_set_ne hj] at e
        exact S'.notOwn hp j ys e
      · refine List.nodup_cons.mpr ⟨fun hm => ?_, g3⟩
        obtain ⟨e, he, z⟩ := List.mem_map.mp hm
        obtain ⟨_, _, _, us, h4, _⟩ := g2 e he
        rw [z, hp] at h4; cases h4
    · exact q.elim⟩
theorem ppn_end (h : PPSs X st t T) : PPN X i st t (fun _ => T) := ⟨h.ps, fun G F H σ ρ P E q es S _ hT r => h.snd G F H σ ρ P E S hT r⟩
def pNIf (i : Nat) (C : TTp) (Tr : TSp) (U : List (List D) → TSp) : List (List D) → TSp := fun xss P ρ => C (frzAll (ρ.set i (some (.val (.lst (xss.map D.lst)))))) fun b _ => if b = true then Tr { P with nx := fun _ => False } ρ else U xss P ρ
theorem ppn_if {c : Expr} {tc : TT} {C : TTp} {Tr : TSp} (hc : PPT X c tc C) (ha : PPSs X a t Tr) (h2 : PPN X i rest u U) : PPN X i (.If c a [] pos :: rest) (tSeq (tIfS tc t tNext) u) (pNIf i C Tr U) :=
  ⟨pss_cons (ps_if hc.pt ha.ps pss_nil) h2.ps, fun G F H σ ρ P E q es S N hT r => by
    obtain ⟨u1, S1⟩ := N.look S
    obtain ⟨u2, S2⟩ := S1.shut
    refine hc.snd G _ H σ _ _ _ S2 hT fun b F3 H3 ρ3 u3 S3 q3 => ?_
    have hH : ∀ b, isOwn ρ b ∨ b ∈ adrs q es → H3 b = H b := fun b hb => by
      have key : ∃ o, H b = some o ∧ shutF (ρ.set i (some (.val (.lst ((es.map (·.2)).map D.lst))))) (plusG F H (adrs q es)) H b = some o := by
        rcases hb with ⟨k, xs, e⟩ | hb
        · obtain ⟨_, _, _, vs, h4, _⟩ := S.own k b xs e
          have hk : i ≠ k := fun z => by subst z; rw [N.z] at e; cases e
          exact ⟨_, h4, by rw [shut_own ⟨k, xs, by rw [List.getElem?_set_ne hk]; exact e⟩]; exact h4⟩
        · obtain ⟨_, _, _, us, h4⟩ := N.free hb
          exact ⟨_, h4, u2.ex b _ (by rw [plus_in hb]; exact h4)⟩
      obtain ⟨o, h1, h2⟩ := key
      rw [h1]; exact S3.hF b _ (u3.ex b _ h2)
    have SB : Sim X.K G F H3 σ ρ := S.rebase (((u1.ex.trans u2.ex).trans u3.ex).trans S3.hF) (S3.hG.step (.refl _) fun b o e => .inl (((u1.ex.trans u2.ex).trans u3.ex) b o e)) fun b hb => hH b (.inl hb)
    have NB : Nst X.K G F H3 σ ρ i q es := ⟨N.sl, N.z, N.nf, N.ng, N.no, by rw [hH q (.inr (by simp))]; exact N.hq, fun e he => by
      obtain ⟨h1, h2, h3, us, h4, h5⟩ := N.el e he
      exact ⟨h1, h2, h3, us, by rw [hH e.1 (.inr (List.mem_cons_of_mem _ (List.mem_map.mpr ⟨e, he, rfl⟩)))]; exact h4, h5⟩, N.nd⟩
    cases b with
    | true => exact ite_ti (ha.snd G F H3 σ ρ _ _ SB (ite_t q3) ⟨fun _ _ _ _ _ _ z => z.elim, r.rt, r.bk, r.ct⟩)
    | false => exact ite_fi (h2.snd G F H3 σ ρ P E q es SB NB (ite_f q3) r)⟩
def pNApp (i j : Nat) (Te : TEp) (U : List (List D) → TSp) : List (List D) → TSp := fun xss P ρ => ∃ xs, xss[j]? = some xs ∧ xs.length < sizeLine ∧ Te ρ fun y ρ1 => ρ1[i]? = some none ∧ U (xss.set j (xs ++ [y])) P ρ1
theorem ref_at {es : List (Addr × List D)} {j : Nat} {e : Addr × List D} (h : es[j]? = some e) : atI (es.map fun e => V.ref e.1) (j : Int) = some (.ref e.1) := by
  have hj : j < es.length := by
    rcases Nat.lt_or_ge j es.length with h' | h'
    · exact h'
    · rw [List.getElem?_eq_none h'] at h; cases h
  unfold atI ixN
  rw [if_pos (by omega), if_pos (by rw [List.length_map]; omega)]
  show (es.map fun e => V.ref e.1)[((j : Int)).toNat]? = _
  rw [Int.toNat_natCast, List.getElem?_map, h]; rfl
theorem map_at {es : List (Addr × List D)} {j : Nat} {xs : List D} (h : (es.map (·.2))[j]? = some xs) : ∃ e, es[j]? = some e ∧ e.2 = xs := by
  rw [List.getElem?_map] at h
  cases q : es[j]? with
  | none => rw [q] at h; cases h
  | some e => rw [q] at h; exact ⟨e, rfl, Option.some.inj h⟩
theorem set_map {es : List (Addr × List D)} {j : Nat} {e : Addr × List D} {ys : List D} : (es.set j (e.1, ys)).map (·.2) = (es.map (·.2)).set j ys := by rw [List.map_set]
theorem ppn_append (j : Nat) {x : Str} {p sp ap cp kp : Pos} {kk} (he : PPE X e te Te) (h2 : PPN X i rest u U) (hN : X.N[i]? = some x := by rfl) (hv : Vis X.env.scope x := by first | exact Or.inl rfl | exact Or.inr (Or.inl rfl) | exact Or.inr (Or.inr rfl)) (hd : (x == ("__debug__" : Str)) = false := by decide)
    (hcd : (x == ("__classdict__" : Str)) = false := by decide) (hpl : PlainIx (.Constant (.int (j : Int)) kk kp) := by exact fun _ _ => rfl)
    (hbase : attributeBase (.Subscript (.Name x p) (.Constant (.int (j : Int)) kk kp) sp) "append" X.env (eval (.Subscript (.Name x p) (.Constant (.int (j : Int)) kk kp) sp) X.env) = eval (.Subscript (.Name x p) (.Constant (.int (j : Int)) kk kp) sp) X.env := by rfl)
    (hfew : ((backTo cp (starEach [e] X.env)).all (fun x => !x.1) && (backToKw cp (keywordEach [] X.env)).all (fun x => x.1.isSome)
      && decide ([e].length + ([] : List Keyword).length + (if ([] : List Keyword).isEmpty then 0 else 1) < 30)) = true := by rfl)
    (hline : (ap.endLine == cp.line) = true := by rfl) (hs : starEach [e] X.env = (false, eval e X.env) :: starEach [] X.env := by rfl)
    (hsw : swapsWith (.Call (.Attribute (.Subscript (.Name x p) (.Constant (.int (j : Int)) kk kp) sp) "append" ap) [e] [] cp) none pos.line X.env = pure false := by rfl) :
    PPN X i (.Expr (.Call (.Attribute (.Subscript (.Name x p) (.Constant (.int (j : Int)) kk kp) sp) "append" ap) [e] [] cp) pos :: rest) (tSeq (tDrop (tBM X.K "list" rAppend (tOp (rIxA X.K) (tVar i) (tC (.int (j : Int)))) (tCons te tNil))) u) (pNApp i j Te U) :=
  ⟨pss_cons (ps_expr (pe_bm PySem.F.plainAttrs_list PySem.F.slot_list_append PySem.F.type_list_append mt_append (pe_ix ix_any (pe_var hN hv hd hcd) pe_int hpl) (pa_cons he.pe pa_nil hs) hbase hfew hline hs rfl) hsw) h2.ps, fun G F H σ ρ P E q es S N hT r => by
    obtain ⟨xs, hx, hz, hT⟩ := hT
    obtain ⟨e, hj, rfl⟩ := map_at hx
    obtain ⟨_, _, _, us, h4, h5⟩ := N.el e (List.mem_of_getElem? hj)
    refine ⟨.ref q, N.sl, .inl ⟨q, _, j, .ref e.1, rfl, rfl, SqL.of N.hq, ref_at hj, .inl ⟨rfl, _, SqL.of h4⟩, he.snd _ F H σ ρ _ _ (N.guard S) hT fun y dy F1 H1 ρ1 u1 S1 r1 q1 => ?_⟩⟩
    obtain ⟨u2, S2, N2⟩ := N.back u1 S1 q1.1
    obtain ⟨_, _, _, ws, g4, g5⟩ := N2.el e (List.mem_of_getElem? hj)
    obtain ⟨S3, N3⟩ := N2.mut S2 hj (g5.append (.one r1))
    exact ⟨e.1, ws, y, rfl, rfl, g4, by rw [g5.length]; exact hz, h2.snd G F1 _ σ ρ1 P E q _ S3 N3 (by rw [set_map]; exact q1.2) (r.mono u2)⟩⟩
def pNRev (j : Nat) (U : List (List D) → TSp) : List (List D) → TSp := fun xss P ρ => ∃ xs, xss[j]? = some xs ∧ U (xss.set j xs.reverse) P ρ
theorem ppn_reverse (j : Nat) {x : Str} {p sp ap cp kp : Pos} {kk} (h2 : PPN X i rest u U) (hN : X.N[i]? = some x := by rfl) (hv : Vis X.env.scope x := by first | exact Or.inl rfl | exact Or.inr (Or.inl rfl) | exact Or.inr (Or.inr rfl)) (hd : (x == ("__debug__" : Str)) = false := by decide)
    (hcd : (x == ("__classdict__" : Str)) = false := by decide) (hpl : PlainIx (.Constant (.int (j : Int)) kk kp) := by exact fun _ _ => rfl)
    (hbase : attributeBase (.Subscript (.Name x p) (.Constant (.int (j : Int)) kk kp) sp) "reverse" X.env (eval (.Subscript (.Name x p) (.Constant (.int (j : Int)) kk kp) sp) X.env) = eval (.Subscript (.Name x p) (.Constant (.int (j : Int)) kk kp) sp) X.env := by rfl)
    (hline : (ap.endLine == cp.line) = true := by rfl)
    (hsw : swapsWith (.Call (.Attribute (.Subscript (.Name x p) (.Constant (.int (j : Int)) kk kp) sp) "reverse" ap) [] [] cp) none pos.line X.env = pure false := by rfl) :
    PPN X i (.Expr (.Call (.Attribute (.Subscript (.Name x p) (.Constant (.int (j : Int)) kk kp) sp) "reverse" ap) [] [] cp) pos :: rest) (tSeq (tDrop (tBM0 X.K "list" rReverse (tOp (rIxA X.K) (tVar i) (tC (.int (j : Int)))))) u) (pNRev j U) :=
  ⟨pss_cons (ps_expr (pe_bm0 PySem.F.plainAttrs_list PySem.F.slot_list_reverse PySem.F.type_list_reverse mt_reverse (pe_ix ix_any (pe_var hN hv hd hcd) pe_int hpl) hbase hline) hsw) h2.ps, fun G F H σ ρ P E q es S N hT r => by
    obtain ⟨xs, hx, hT⟩ := hT
    obtain ⟨e, hj, rfl⟩ := map_at hx
    obtain ⟨_, _, _, us, h4, h5⟩ := N.el e (List.mem_of_getElem? hj)
    obtain ⟨S3, N3⟩ := N.mut S hj h5.reverse
    exact ⟨.ref q, N.sl, .inl ⟨q, _, j, .ref e.1, rfl, rfl, SqL.of N.hq, ref_at hj, .inl ⟨rfl, _, SqL.of h4⟩, e.1, us, rfl, rfl, h4, h2.snd G F _ σ ρ P E q _ S3 N3 (by rw [set_map]; exact hT) r⟩⟩⟩
end
end Pl
namespace Pl
open PySem PySem.Spec PyProof.Rows L2
/-! ### in, of a tuple -/
section
variable {X : Cx}
def rInT (K : PySem.W.Frag) : R2 := fun x y H Q => ∃ d ds, Dp K H x d ∧ Dp K H y (.tuple ds) ∧ SeqAt.shaped d = true ∧ SeqAt.shaped (.tuple ds) = true ∧ Q (.bl (ds.any fun z => PyData.eqv z d)) H
def rNotInT (K : PySem.W.Frag) : R2 := fun x y H Q => ∃ d ds, Dp K H x d ∧ Dp K H y (.tuple ds) ∧ SeqAt.shaped d = true ∧ SeqAt.shaped (.tuple ds) = true ∧ Q (.bl (!ds.any fun z => PyData.eqv z d)) H
theorem op_inT (hu : X.A.units + 65 < cLine) : OpR X (compareOp .In) (rInT X.K) := by
  intro pins s σ H x y v u Q I rx ry h
  obtain ⟨d, ds, hd, he, sd, se, q⟩ := h
  obtain ⟨as, r1⟩ := Dp.reads I d x v hd rx
  obtain ⟨bs, r2⟩ := Dp.reads I (.tuple ds) y u he ry
  exact SeqAt.in_tuple_reads r2 r1 (SeqAt.canLay_of_shaped se) (SeqAt.canLay_of_shaped sd) (room_in_shaped sd hu) ⟨.bl _, H, I, rfl, q⟩
theorem op_notInT (hu : X.A.units + 65 < cLine) : OpR X (compareOp .NotIn) (rNotInT X.K) := by
  intro pins s σ H x y v u Q I rx ry h
  obtain ⟨d, ds, hd, he, sd, se, q⟩ := h
  obtain ⟨as, r1⟩ := Dp.reads I d x v hd rx
  obtain ⟨bs, r2⟩ := Dp.reads I (.tuple ds) y u he ry
  exact SeqAt.notIn_tuple_reads r2 r1 (SeqAt.canLay_of_shaped se) (SeqAt.canLay_of_shaped sd) (room_in_shaped sd hu) ⟨.bl _, H, I, rfl, q⟩
def fInT : F2 := fun x y Q => match y with
  | .tup ys => x.sh ∧ (D.tup ys).sh ∧ Q (.bl (ys.any fun z => z.eqv x))
  | _ => False
def fNotInT : F2 := fun x y Q => match y with
  | .tup ys => x.sh ∧ (D.tup ys).sh ∧ Q (.bl (!ys.any fun z => z.eqv x))
  | _ => False
theorem cm_inT (hu : X.A.units + 65 < cLine) : Cmp X .In (rInT X.K) fInT := ⟨op_inT hu, fun F H x y dx dy Q R hs rx ry hf k => by
  cases ry with
  | @tup a vs ys h r =>
    obtain ⟨h1, h2, q⟩ := hf
    refine ⟨toPy dx, toPys ys, rx.dp hs h1, ?_, h1, ?_, ?_⟩
    · have := (Rep.tup h r).dp hs h2; rw [toPy] at this; exact this
    · unfold D.sh at h2; rw [toPy] at h2; exact h2
    · rw [any_toPys]; exact k _ _ _ _ (.old (.bl _)) q
  | _ => exact hf.elim⟩
theorem cm_ninT (hu : X.A.units + 65 < cLine) : Cmp X .NotIn (rNotInT X.K) fNotInT := ⟨op_notInT hu, fun F H x y dx dy Q R hs rx ry hf k => by
  cases ry with
  | @tup a vs ys h r =>
    obtain ⟨h1, h2, q⟩ := hf
    refine ⟨toPy dx, toPys ys, rx.dp hs h1, ?_, h1, ?_, ?_⟩
    · have := (Rep.tup h r).dp hs h2; rw [toPy] at this; exact this
    · unfold D.sh at h2; rw [toPy] at h2; exact h2
    · rw [any_toPys]; exact k _ _ _ _ (.old (.bl _)) q
  | _ => exact hf.elim⟩
end
end Pl
namespace Pl
open PySem PySem.Spec PyProof.Rows L2
abbrev N_first_gentle : List Str := [("slopes" : Str), ("slope" : Str), ("number" : Str), ("other" : Str)]
def T_first_gentle : TSp :=
  (pSeq (pFor (jE (pCons (pVar 0) pNil)) (hTup 2 (hCons (hName 2) (hCons (hName 3) hNil)))
    (pIfS (pTest (pOp fLe (pVar 3) (pVar 1)))
    (pRet (pMove 2))
    pNext))
    (pRet (pVal (pC .non))))
abbrev N_meetings : List Str := [("cuts" : Str), ("fills" : Str), ("pairs" : Str), ("slope" : Str), ("pair" : Str)]
def T_meetings (g_first_gentle : FA) : TSp :=
  (pSeq (pSet 2 (pLstO pNil))
    (pSeq (pFor (jSeq (pSortR (pLst (pStar (pVar 0) (pStar (pVar 1) pNil))))) (hName 3)
    (pSeq (pSet 4 (pVal (pTup (pCons (pFrz (pCallA 2 g_first_gentle (pCons (pVar 0) (pCons (pVar 3) pNil)))) (pCons (pFrz (pCallA 2 g_first_gentle (pCons (pVar 1) (pCons (pVar 3) pNil)))) pNil)))))
    (pIfS (pAnd (pTest (pOp fNotInT (pC .non) (pVar 4))) (pTest (pPeek (pOp fNotIn (pVar 4) (pVar 2)))))
    (pAppend 2 (pVar 4))
    pNext)))
    (pRet (pMove 2))))
abbrev N_both_words : List Str := [("pair" : Str), ("cut" : Str), ("fill" : Str)]
def T_both_words : TSp :=
  (pSeq (pAsg (pVar 0) (hTup 2 (hCons (hName 1) (hCons (hName 2) hNil))))
    (pRet (pVal (pTup (pCons (pTup (pCons (pC (.str "cut")) (pCons (pVar 1) (pCons (pVar 2) pNil)))) (pCons (pTup (pCons (pC (.str "fill")) (pCons (pVar 1) (pCons (pVar 2) pNil)))) pNil))))))
abbrev N_ways_to : List Str := [("word" : Str), ("ahead" : Str), ("many" : Str), ("other" : Str), ("ways" : Str)]
def T_ways_to (g_are_contrary : FA) : TSp :=
  (pRet (pVal (pCB fSumA (pCons (pLc (jZ2 (pCons (pVar 1) (pCons (pVar 2) pNil))) (hTup 2 (hCons (hName 3) (hCons (hName 4) hNil))) (pNot (pTest (pFrz (pCallA 2 g_are_contrary (pCons (pVar 3) (pCons (pVar 0) pNil)))))) (pVar 4) [3, 4]) pNil))))
abbrev N_cores_many : List Str := [("cuts" : Str), ("fills" : Str), ("met" : Str), ("many" : Str), ("ahead" : Str), ("after" : Str), ("word" : Str)]
def T_cores_many (g_meetings : FA) (g_both_words : FA) (g_ways_to : FA) : TSp :=
  (pSeq (pSet 2 (pCallA 2 g_meetings (pCons (pVar 0) (pCons (pVar 1) pNil))))
    (pSeq (pSet 3 (pVal (pIf (pTest (pOp fGt (pLenO 2) (pC (.int 0)))) (pLst (pCons (pC (.int 1)) (pCons (pC (.int 1)) pNil))) (pLst (pCons (pC (.int 1)) pNil)))))
    (pSeq (pFor (jZ2 (pCons (pVar 2) (pCons (pSl (pVar 2) (pPart (pC (.int 1))) pNoPart) pNil))) (hTup 2 (hCons (hName 4) (hCons (hName 5) hNil)))
    (pSet 3 (pVal (pLc (jSeq (pFrz (pCallA 1 g_both_words (pCons (pVar 5) pNil)))) (hName 6) pYes (pFrz (pCallA 3 g_ways_to (pCons (pVar 6) (pCons (pFrz (pCallA 1 g_both_words (pCons (pVar 4) pNil))) (pCons (pVar 3) pNil))))) [6]))))
    (pRet (pVal (pCB fSumA (pCons (pVar 3) pNil)))))))
abbrev N__law_right : List Str := [("_law_box_here" : Str), ("_law_turn" : Str), ("_law_top" : Str), ("_law_gaps" : Str), ("_law_k" : Str), ("_law_slopes" : Str), ("_law_due" : Str), ("_law_many" : Str), ("_law_cuts" : Str), ("_law_fills" : Str), ("_law_at" : Str), ("_law_book" : Str), ("_law_slope_here" : Str), ("_law_by" : Str), ("_law_one" : Str), ("_law_spot" : Str), ("_law_more" : Str), ("_law_least" : Str), ("_law_both" : Str)]
def T__law_right_1 (g__law_take : FB) : TSp :=
  (pAsg (pTup (pCons (pOp fAdd (pC (.int 1000000)) (pFrz (pCallB 0 2 g__law_take (pCons (pC (.int 1000000)) pNil)))) (pCons (pLc (jRng1 (pCons (pC (.int 120)) pNil)) (hName 1) pYes (pOp fAdd (pC (.int 1)) (pFrz (pCallB 0 2 g__law_take (pCons (pC (.int 50)) pNil)))) [1]) pNil))) (hTup 2 (hCons (hName 2) (hCons (hName 3) hNil))))
def T__law_right_2 : TSp :=
  (pSet 5 (pVal (pLc (jRng1 (pCons (pC (.int 120)) pNil)) (hName 4) pYes (pOp fSub (pVar 2) (pCB fSumA (pCons (pSl (pVar 3) pNoPart (pPart (pOp fAdd (pVar 4) (pC (.int 1))))) pNil))) [4])))
def T__law_right_3 : TSp :=
  (pSet 6 (pLstO (pCons (pC (.int 1)) (pCons (pC (.int 1)) (pCons (pC (.int 2)) pNil)))))
def T__law_right_4_1 : TSp :=
  (pAppend 6 (pOp fAdd (pIxO 6 (pUn fNeg (pC (.int 1)))) (pIxO 6 (pUn fNeg (pC (.int 2))))))
def T__law_right_4 : TSp :=
  (pFor (jRng1 (pCons (pC (.int 120)) pNil)) (hName 7)
    T__law_right_4_1)
def T__law_right_5_1 : TSp :=
  (pPar 8 9 (pCons (pSl2 0 (pSl (pVar 5) pNoPart (pPart (pVar 7)))) (pCons (pSl2 1 (pSl (pVar 5) pNoPart (pPart (pVar 7)))) pNil)))
def T__law_right_5_2_1 : TSp :=
  (pRet (pVal (pC (.bl false))))
def T__law_right_5_2 (g_cores_many : FA) (g__law_same : FA) : TSp :=
  (pIfS (pNot (pTest (pFrz (pCallA 2 g__law_same (pCons (pLst (pCons (pFrz (pCallA 2 g_cores_many (pCons (pVar 8) (pCons (pVar 9) pNil)))) (pCons (pFrz (pCallA 2 g_cores_many (pCons (pVar 9) (pCons (pVar 8) pNil)))) pNil))) (pCons (pOp fRep (pLst (pCons (pIxO 6 (pVar 7)) pNil)) (pC (.int 2))) pNil))))))
    T__law_right_5_2_1
    pNext)
def T__law_right_5 (g_cores_many : FA) (g__law_take : FB) (g__law_same : FA) : TSp :=
  (pFor (jSeq (pTup (pCons (pC (.int 0)) (pCons (pC (.int 1)) (pCons (pC (.int 2)) (pCons (pFrz (pCallB 0 2 g__law_take (pCons (pC (.int 12)) pNil))) (pCons (pFrz (pCallB 0 2 g__law_take (pCons (pC (.int 121)) pNil))) pNil))))))) (hName 7)
    (pSeq T__law_right_5_1
    (T__law_right_5_2 g_cores_many g__law_same)))
def T__law_right_6 (g__law_take : FB) : TSp :=
  (pSet 10 (pCallB 0 2 g__law_take (pCons (pC (.int 60)) pNil)))
def T__law_right_7 (g__law_take : FB) : TSp :=
  (pPar 8 9 (pCons (pSl (pVar 5) pNoPart (pPart (pVar 10))) (pCons (pSl (pVar 5) (pPart (pVar 10)) (pPart (pOp fAdd (pOp fAdd (pVar 10) (pC (.int 1))) (pFrz (pCallB 0 2 g__law_take (pCons (pC (.int 59)) pNil)))))) pNil)))
def T__law_right_8_1 : TSp :=
  (pRet (pVal (pC (.bl false))))
def T__law_right_8 (g_cores_many : FA) : TSp :=
  (pIfS (pOr (pTest (pOp fNe (pFrz (pCallA 2 g_cores_many (pCons (pVar 8) (pCons (pVar 9) pNil)))) (pOp fAdd (pC (.int 1)) (pVar 10)))) (pTest (pOp fNe (pFrz (pCallA 2 g_cores_many (pCons (pVar 9) (pCons (pVar 8) pNil)))) (pOp fAdd (pC (.int 1)) (pVar 10)))))
    T__law_right_8_1
    pNext)
def T__law_right_9 (g__law_books : FB) : TSp :=
  (pAsg (pLc (jSeq (pFrz (pCallB 0 2 g__law_books (pCons (pC (.int 30)) pNil)))) (hName 11) pYes (pLc (jSeq (pVar 11)) (hName 12) pYes (pOp fAdd (pC (.int 10)) (pOp fMod (pVar 12) (pC (.int 10000000)))) [12]) [11]) (hTup 2 (hCons (hName 8) (hCons (hName 9) hNil))))
def T__law_right_10 (g_cores_many : FA) (g__law_take : FB) : TSp :=
  (pAsg (pTup (pCons (pFrz (pCallA 2 g_cores_many (pCons (pVar 8) (pCons (pVar 9) pNil)))) (pCons (pOp fAdd (pC (.int 1)) (pFrz (pCallB 0 2 g__law_take (pCons (pC (.int 9)) pNil)))) pNil))) (hTup 2 (hCons (hName 7) (hCons (hName 13) hNil))))
def T__law_right_11_1 : TSp :=
  (pRet (pVal (pC (.bl false))))
def T__law_right_11 (g_cores_many : FA) : TSp :=
  (pIfS (pTest (pOp fNe (pFrz (pCallA 2 g_cores_many (pCons (pVar 9) (pCons (pVar 8) pNil)))) (pVar 7)))
    T__law_right_11_1
    pNext)
def T__law_right_12_1 : TSp :=
  (pRet (pVal (pC (.bl false))))
def T__law_right_12 (g_cores_many : FA) : TSp :=
  (pIfS (pTest (pOp fNe (pFrz (pCallA 2 g_cores_many (pCons (pLc (jSeq (pVar 8)) (hName 14) pYes (pOp fMulI (pVar 13) (pVar 14)) [14]) (pCons (pLc (jSeq (pVar 9)) (hName 14) pYes (pOp fMulI (pVar 13) (pVar 14)) [14]) pNil)))) (pVar 7)))
    T__law_right_12_1
    pNext)
def T__law_right_13_1 (g__law_take : FB) : TSp :=
  (pSet 15 (pVal (pOp fAdd (pC (.int 1)) (pFrz (pCallB 0 2 g__law_take (pCons (pLenO 8) pNil))))))
def T__law_right_13_2 (g__law_take : FB) : TSp :=
  (pSet 16 (pVal (pOp fAdd (pOp fAdd (pSl (pVar 8) pNoPart (pPart (pVar 15))) (pLst (pCons (pOp fAdd (pCB (fBest min) (pCons (pSl (pVar 8) pNoPart (pPart (pVar 15))) pNil)) (pFrz (pCallB 0 2 g__law_take (pCons (pC (.int 9)) pNil)))) pNil))) (pSl (pVar 8) (pPart (pVar 15)) pNoPart))))
def T__law_right_13_3_1 : TSp :=
  (pRet (pVal (pC (.bl false))))
def T__law_right_13_3 (g_cores_many : FA) : TSp :=
  (pIfS (pTest (pOp fNe (pFrz (pCallA 2 g_cores_many (pCons (pVar 16) (pCons (pVar 9) pNil)))) (pVar 7)))
    T__law_right_13_3_1
    pNext)
def T__law_right_13 (g_cores_many : FA) (g__law_take : FB) : TSp :=
  (pIfS (pTest (pOp fNe (pVar 8) (pLst pNil)))
    (pSeq (T__law_right_13_1 g__law_take)
    (pSeq (T__law_right_13_2 g__law_take)
    (T__law_right_13_3 g_cores_many)))
    pNext)
def T__law_right_14 (g__law_take : FB) : TSp :=
  (pSet 17 (pCallB 0 2 g__law_take (pCons (pC (.int 10)) pNil)))
def T__law_right_15 (g_cores_many : FA) : TSp :=
  (pSet 18 (pCallA 2 g_cores_many (pCons (pOp fAdd (pVar 8) (pLst (pCons (pVar 17) pNil))) (pCons (pOp fAdd (pVar 9) (pLst (pCons (pVar 17) pNil))) pNil))))
def T__law_right_16 (g_cores_many : FA) : TSp :=
  (pRet (pVal (pOp fEq (pVar 18) (pOp fAdd (pFrz (pCallA 2 g_cores_many (pCons (pOp fAdd (pVar 8) (pLst (pCons (pVar 17) pNil))) (pCons (pVar 9) pNil)))) (pFrz (pCallA 2 g_cores_many (pCons (pVar 8) (pCons (pOp fAdd (pVar 9) (pLst (pCons (pVar 17) pNil))) pNil))))))))
def T__law_right (g_cores_many : FA) (g__law_take : FB) (g__law_same : FA) (g__law_books : FB) : TSp :=
  (pSeq (T__law_right_1 g__law_take)
    (pSeq T__law_right_2
    (pSeq T__law_right_3
    (pSeq T__law_right_4
    (pSeq (T__law_right_5 g_cores_many g__law_take g__law_same)
    (pSeq (T__law_right_6 g__law_take)
    (pSeq (T__law_right_7 g__law_take)
    (pSeq (T__law_right_8 g_cores_many)
    (pSeq (T__law_right_9 g__law_books)
    (pSeq (T__law_right_10 g_cores_many g__law_take)
    (pSeq (T__law_right_11 g_cores_many)
    (pSeq (T__law_right_12 g_cores_many)
    (pSeq (T__law_right_13 g_cores_many g__law_take)
    (pSeq (T__law_right_14 g__law_take)
    (pSeq (T__law_right_15 g_cores_many)
    (T__law_right_16 g_cores_many))))))))))))))))
abbrev N_law : List Str := [("_law_script" : Str), ("_law_k" : Str), ("_law_box_here" : Str), ("_law_turn" : Str)]
def T_law_1_1 (g__law_box : FA) : TSp :=
  (pSet 2 (pCallA 2 g__law_box (pCons (pVar 0) (pCons (pVar 1) pNil))))
def T_law_1_2_1 : TSp :=
  (pRet (pVal (pC (.bl false))))
def T_law_1_2 (g__law_right : FB) : TSp :=
  (pIfS (pNot (pTest (pCB fAll (pCons (pLc (jRng1 (pCons (pC (.int 1)) pNil)) (hName 3) pYes (pFrz (pCallB 2 1 g__law_right pNil)) [3]) pNil))))
    T_law_1_2_1
    pNext)
def T_law_1 (g__law_box : FA) (g__law_right : FB) : TSp :=
  (pFor (jRng1 (pCons (pOp fAdd (pC (.int 1)) (pCB fMin2 (pCons (pC (.int 2)) (pCons (pLenO 0) pNil)))) pNil)) (hName 1)
    (pSeq (T_law_1_1 g__law_box)
    (T_law_1_2 g__law_right)))
def T_law_2 : TSp :=
  (pRet (pVal (pC (.bl true))))
def T_law (g__law_box : FA) (g__law_right : FB) : TSp :=
  (pSeq (T_law_1 g__law_box g__law_right)
    T_law_2)
/-! ### the first one so gentle -/
def optN : Option Nat → D
  | none => .non
  | some i => .int (i : Int)
def g_first_gentle : FA := fun ds C => ∃ l s, ds = [.lst (dI l), .int s] ∧ C (.val (optN (fg l s)))
theorem fg_here {x s : Int} {r : List Int} {k : Nat} (h : x ≤ s) : (fg (x :: r) s).map (· + k) = some k := by
  unfold fg
  rw [if_pos h, Option.map_some, Nat.zero_add]
theorem fg_next {x s : Int} {r : List Int} {k : Nat} (h : ¬ x ≤ s) : (fg (x :: r) s).map (· + k) = (fg r s).map (· + (k + 1)) := by
  show (if x ≤ s then some 0 else (fg r s).map (· + 1)).map (· + k) = _
  rw [if_neg h, Option.map_map]
  congr 1
  funext n
  show n + 1 + k = n + (k + 1)
  omega
theorem rd_first_gentle : ∀ ds C, ds.length = 2 → g_first_gentle ds C → T_first_gentle (EA C) (startA N_first_gentle ds) := by
  rintro ds C - ⟨l, s, rfl, hC⟩
  refine fr_en l (fun x => .int x) (fun k r ρ => ∃ w2 w3, fg l s = (fg r s).map (· + k) ∧ ρ = [some (.val (.lst (dI l))), some (.val (.int s)), w2, w3]) rfl ⟨_, _, by cases fg l s <;> rfl, rfl⟩ (fun k x r ρ K hI hK => ?_) (fun k ρ hI => ?_)
  · obtain ⟨w2, w3, e, rfl⟩ := hI
    refine ⟨rfl, rfl, ifB (fun h => ?_) (fun h => ?_)⟩
    · rw [fg_here (of_decide_eq_true h)] at e
      rw [e] at hC
      exact hC
    · exact hK _ ⟨_, _, e.trans (fg_next (of_decide_eq_false h)), rfl⟩
  · obtain ⟨w2, w3, e, rfl⟩ := hI
    have e : fg l s = none := e
    rw [e] at hC
    exact hC
/-! ### which meet -/
def meD (q : Nat × Nat) : D := .tup [.int (q.1 : Int), .int (q.2 : Int)]
def mesD (l : List (Nat × Nat)) : List D := l.map meD
theorem mesD_len (l : List (Nat × Nat)) : (mesD l).length = l.length := List.length_map _
theorem canLay_pairs : ∀ l : List (Nat × Nat), PyData.canLayAll0 (toPys (mesD l)) = true
  | [] => rfl
  | q :: l => by
    show (PyData.canLay0 (toPy (meD q)) && PyData.canLayAll0 (toPys (mesD l))) = true
    rw [canLay_pairs l]; rfl
theorem depth_pairs : ∀ l : List (Nat × Nat), PyData.depthAll (toPys (mesD l)) ≤ 1
  | [] => by decide
  | q :: l => by
    show max (PyData.depth (toPy (meD q))) (PyData.depthAll (toPys (mesD l))) ≤ 1
    have := depth_pairs l
    have e : PyData.depth (toPy (meD q)) = 1 := rfl
    omega
theorem sh_pairs (l : List (Nat × Nat)) : (D.lst (mesD l)).sh := by
  show (PyData.canLayAll0 (toPys (mesD l)) && decide (PyData.depthAll (toPys (mesD l)) + 1 ≤ 64)) = true
  rw [canLay_pairs]
  have := depth_pairs l
  simp; omega
theorem sh_pr (q : Nat × Nat) : (meD q).sh := sh_tupI [(q.1 : Int), (q.2 : Int)]
theorem sh_opt2 (a b : Option Nat) : (D.tup [optN a, optN b]).sh := by
  cases a <;> cases b <;> rfl
theorem pair_eqv (p q : Nat × Nat) : (meD p).eqv (meD q) = decide (p = q) := by
  obtain ⟨a, b⟩ := p
  obtain ⟨c, d⟩ := q
  have := eqv_tupI [(a : Int), (b : Int)] [(c : Int), (d : Int)]
  refine this.trans (decide_eq_decide.mpr ?_)
  simp
  omega
theorem any_pairs (q : Nat × Nat) (l : List (Nat × Nat)) : ((mesD l).any fun z => z.eqv (meD q)) = decide (q ∈ l) := by
  induction l with
  | nil => rfl
  | cons p l ih =>
    show ((meD p).eqv (meD q) || (mesD l).any fun z => z.eqv (meD q)) = _
    rw [ih, pair_eqv]
    by_cases h : p = q
    · subst h; simp
    · have : q ≠ p := fun z => h z.symm
      simp [h, this]
def g_meetings : FA := fun ds C => ∃ cuts fills, ds = [.lst (dI cuts), .lst (dI fills)] ∧ cuts.length ≤ 400 ∧ fills.length ≤ 400 ∧ ∀ p, C (.own p (mesD (meetL cuts fills)))
theorem rd_meetings : ∀ ds C, ds.length = 2 → g_meetings ds C → T_meetings g_first_gentle (EA C) (startA N_meetings ds) := by
  rintro ds C - ⟨cuts, fills, rfl, h1, h2, hC⟩
  refine ⟨by show (0 : Nat) ≤ sizeLine; decide, fun p => ?_⟩
  refine ⟨Nat.le_trans (show (dI cuts ++ (dI fills ++ [])).length ≤ 1000 by rw [List.append_nil, List.length_append, ints_len, ints_len]; omega) (by decide), cuts ++ fills, by rw [List.append_nil]; unfold dI; rw [List.map_append], fun S hp hs => ?_⟩
  have eS : S = sortD (cuts ++ fills) := desc_unique (hp.trans (sortD_perm _).symm) hs (sortD_pw _)
  have hC : ∀ p, C (.own p (mesD (meetF cuts fills S []))) := by rw [eS]; exact hC
  have hl : S.length ≤ 800 := by rw [hp.length_eq, List.length_append]; omega
  refine fr_mp S (fun x => .int x) (fun r ρ => ∃ acc w3 w4, meetF cuts fills S [] = meetF cuts fills r acc ∧ acc.length + r.length ≤ S.length ∧ ρ = [some (.val (.lst (dI cuts))), some (.val (.lst (dI fills))), some (.own p (mesD acc)), w3, w4]) rfl ⟨[], _, _, rfl, by simp, rfl⟩ (fun s r ρ K hI hK => ?_) (fun ρ hI => ?_)
  · obtain ⟨acc, w3, w4, e, hacc, rfl⟩ := hI
    have hacc : acc.length + (r.length + 1) ≤ S.length := hacc
    refine ⟨rfl, cuts, s, rfl, rfl, fills, s, rfl, by show (2 : Nat) ≤ sizeLine; decide, by rfl, sh_opt2 _ _, ?_⟩
    cases e1 : fg cuts s with
    | none => exact hK _ ⟨acc, _, _, by rw [e]; simp only [meetF, e1], by omega, rfl⟩
    | some i =>
      cases e2 : fg fills s with
      | none => exact hK _ ⟨acc, _, _, by rw [e]; simp only [meetF, e1, e2], by omega, rfl⟩
      | some j =>
        have em : meetF cuts fills (s :: r) acc = if (i, j) ∈ acc then meetF cuts fills r acc else meetF cuts fills r (acc ++ [(i, j)]) := by
          show (match fg cuts s, fg fills s with
            | some i, some j => if (i, j) ∈ acc then meetF cuts fills r acc else meetF cuts fills r (acc ++ [(i, j)])
            | _, _ => meetF cuts fills r acc) = _
          rw [e1, e2]
        refine ⟨sh_pr (i, j), sh_pairs acc, ifB (fun h => ?_) (fun h => ?_)⟩
        · have h : (!(mesD acc).any fun z => z.eqv (meD (i, j))) = true := h
          rw [any_pairs] at h
          have h : (i, j) ∉ acc := by simpa using h
          refine ⟨mesD acc, rfl, small1000 (by rw [mesD_len]; omega), ?_⟩
          refine hK _ ⟨acc ++ [(i, j)], some (.val (.int s)), some (.val (meD (i, j))), by rw [e, em, if_neg h], by simp; omega, ?_⟩
          unfold mesD
          rw [List.map_append]
          rfl
        · have h : (!(mesD acc).any fun z => z.eqv (meD (i, j))) = false := h
          rw [any_pairs] at h
          have h : (i, j) ∈ acc := by simpa using h
          exact hK _ ⟨acc, _, _, by rw [e, em, if_pos h], by omega, rfl⟩
  · obtain ⟨acc, w3, w4, e, hacc, rfl⟩ := hI
    have e : meetF cuts fills S [] = acc := e
    rw [e] at hC
    exact hC p
/-! ### how many -/
def g_both_words : FA := fun ds C => ∃ q, ds = [meD q] ∧ C (.val (.tup [wordD (true, q), wordD (false, q)]))
theorem rd_both_words : ∀ ds C, ds.length = 1 → g_both_words ds C → T_both_words (EA C) (startA N_both_words ds) := by
  rintro ds C - ⟨q, rfl, hC⟩
  exact ⟨rfl, rfl, by show (3 : Nat) ≤ sizeLine; decide, by show (3 : Nat) ≤ sizeLine; decide, by show (2 : Nat) ≤ sizeLine; decide, hC⟩
def wsum (u : Wo) (q : Nat × Nat) (a b : Int) : Int := (if contr (true, q) u = true then 0 else a) + (if contr (false, q) u = true then 0 else b)
def g_ways_to : FA := fun ds C => ∃ u q a b, ds = [wordD u, .tup [wordD (true, q), wordD (false, q)], .lst [.int a, .int b]] ∧ C (.val (.int (wsum u q a b)))
theorem rd_ways_to : ∀ ds C, ds.length = 3 → g_ways_to ds C → T_ways_to g_are_contrary (EA C) (startA N_ways_to ds) := by
  rintro ds C - ⟨u, q, a, b, rfl, hC⟩
  refine lc_fl [(true, a), (false, b)] (fun p : Bool × Int => .tup [wordD (p.1, q), .int p.2]) (fun p => .int p.2) (fun p => !contr (p.1, q) u) rfl (fun p _ K hK => ?_) (by show (2 : Nat) ≤ 1000; decide) ?_
  · exact ⟨rfl, rfl, rfl, (p.1, q), u, rfl, hK _ rfl fun _ K2 h => h _ rfl⟩
  · refine ⟨(([(true, a), (false, b)] : List (Bool × Int)).filter fun p => !contr (p.1, q) u).map fun p => p.2, by rw [List.map_map]; rfl, ?_⟩
    have e : ((([(true, a), (false, b)] : List (Bool × Int)).filter fun p => !contr (p.1, q) u).map fun p => p.2).sum = wsum u q a b := by
      unfold wsum
      cases h1 : contr (true, q) u <;> cases h2 : contr (false, q) u <;> simp [List.filter, h1, h2]
    rw [e]
    exact hC
def g_cores_many : FA := fun ds C => ∃ cuts fills, ds = [.lst (dI cuts), .lst (dI fills)] ∧ cuts.length ≤ 400 ∧ fills.length ≤ 400 ∧ C (.val (.int (manyC cuts fills)))
theorem wsum_go {q y : Nat × Nat} (h : Le2 q y) (a b : Int) : goN (some (q, a, b)) y = some (y, wsum (true, y) q a b, wsum (false, y) q a b) := by
  obtain ⟨q1, q2⟩ := q
  obtain ⟨y1, y2⟩ := y
  obtain ⟨h1, h2⟩ := h
  have h1 : q1 ≤ y1 := h1
  have h2 : q2 ≤ y2 := h2
  have c1 : contr (false, q1, q2) (true, y1, y2) = decide (y2 = q2) := by
    show (decide (q1 ≤ y1) && decide (y2 ≤ q2)) = _
    rw [decide_eq_true h1, Bool.true_and]
    exact decide_eq_decide.mpr (by omega)
  have c2 : contr (true, q1, q2) (false, y1, y2) = decide (y1 = q1) := by
    show (decide (y1 ≤ q1) && decide (q2 ≤ y2)) = _
    rw [decide_eq_true h2, Bool.and_true]
    exact decide_eq_decide.mpr (by omega)
  show some ((y1, y2), a + (if y2 = q2 then 0 else b), (if y1 = q1 then 0 else a) + b) = some ((y1, y2), (if false = true then 0 else a) + (if contr (false, q1, q2) (true, y1, y2) = true then 0 else b), (if contr (true, q1, q2) (false, y1, y2) = true then 0 else a) + (if false = true then 0 else b))
  rw [c1, c2]
  simp
theorem rd_cores_many : ∀ ds C, ds.length = 2 → g_cores_many ds C → T_cores_many g_meetings g_both_words g_ways_to (EA C) (startA N_cores_many ds) := by
  rintro ds C - ⟨cuts, fills, rfl, h1, h2, hC⟩
  refine ⟨rfl, cuts, fills, rfl, h1, h2, fun p => ?_⟩
  rw [manyC_meet] at hC
  obtain ⟨rise, len⟩ := meetL_rise cuts fills
  generalize meetL cuts fills = met at hC rise len
  refine ifB (fun h => ?_) (fun h => ?_)
  · cases met with
    | nil => exact absurd h (by decide)
    | cons q0 r0 =>
    refine ⟨by show (2 : Nat) ≤ sizeLine; decide, ?_⟩
    refine fr_zp (q0 :: r0) r0 meD meD (fun r ρ => ∃ q rest a b w4 w5, r = (q :: rest).zip rest ∧ (q :: rest).Pairwise Le2 ∧ totN ((q0 :: r0).foldl goN none) = totN (rest.foldl goN (some (q, a, b))) ∧ ρ = [some (.val (.lst (dI cuts))), some (.val (.lst (dI fills))), some (.val (.lst (mesD (q0 :: r0)))), some (.val (.lst [.int a, .int b])), w4, w5, none]) rfl (by rw [cutD_from1]; rfl) ⟨q0, r0, 1, 1, _, _, rfl, rise, rfl, rfl⟩ (fun x y r ρ K hI hK => ?_) (fun ρ hI => ?_)
    · obtain ⟨q, rest, a, b, w4, w5, e, hr, et, rfl⟩ := hI
      cases rest with
      | nil => cases e
      | cons z rest =>
        cases e
        refine ⟨rfl, rfl, rfl, y, rfl, ?_⟩
        refine lc_mp [true, false] (fun c => wordD (c, y)) (fun c => .int (wsum (c, y) x a b)) rfl (fun c _ K hK => ⟨rfl, x, rfl, rfl, (c, y), x, a, b, rfl, hK _ rfl⟩) (by show (2 : Nat) ≤ 1000; decide) ?_
        refine hK _ ⟨y, rest, wsum (true, y) x a b, wsum (false, y) x a b, _, _, rfl, hr.of_cons, ?_, rfl⟩
        rw [et, List.foldl_cons, wsum_go (List.rel_of_pairwise_cons hr List.mem_cons_self)]
    · obtain ⟨q, rest, a, b, w4, w5, e, hr, et, rfl⟩ := hI
      cases rest with
      | cons z rest => cases e
      | nil =>
        refine ⟨[a, b], rfl, ?_⟩
        rw [et] at hC
        have s2 : [a, b].sum = totN (List.foldl goN (some (q, a, b)) []) := by
          show [a, b].sum = a + b
          simp
        rw [s2]
        exact hC
  · cases met with
    | cons q0 r0 =>
      have h := of_decide_eq_false h
      exact absurd (show (0 : Int) < ((mesD (q0 :: r0)).length : Int) by rw [mesD_len]; simp) h
    | nil => exact ⟨by show (1 : Nat) ≤ sizeLine; decide, [1], rfl, hC⟩
/-! ### the law's slopes -/
def slpL (top : Int) (gaps : List Int) : List Int := (List.range 120).map fun j => top - (gaps.take (j + 1)).sum
theorem slpL_len (top : Int) (gaps : List Int) : (slpL top gaps).length = 120 := by unfold slpL; simp
theorem sum_nonneg1 : ∀ {l : List Int}, (∀ x ∈ l, (1 : Int) ≤ x) → 0 ≤ l.sum
  | [], _ => by simp
  | x :: l, h => by
    have h1 := h x List.mem_cons_self
    have h2 := sum_nonneg1 (l := l) fun y hy => h y (List.mem_cons_of_mem _ hy)
    rw [List.sum_cons]; omega
theorem take_sum : ∀ {l : List Int} {i j : Nat}, (∀ x ∈ l, (1 : Int) ≤ x) → i < j → j ≤ l.length → (l.take i).sum < (l.take j).sum
  | [], i, j, _, h1, h2 => by simp at h2; omega
  | x :: l, i, j, h, h1, h2 => by
    cases j with
    | zero => omega
    | succ j =>
      have hx := h x List.mem_cons_self
      have hl : ∀ y ∈ l, (1 : Int) ≤ y := fun y hy => h y (List.mem_cons_of_mem _ hy)
      cases i with
      | zero =>
        have := sum_nonneg1 (l := l.take j) fun y hy => hl y (List.mem_of_mem_take hy)
        simp only [List.take_succ_cons, List.take_zero, List.sum_cons, List.sum_nil]
        omega
      | succ i =>
        have := take_sum (i := i) (j := j) hl (by omega) (by simpa using h2)
        simp only [List.take_succ_cons, List.sum_cons]
        omega
theorem slpL_pw {top : Int} {gaps : List Int} (h : ∀ x ∈ gaps, (1 : Int) ≤ x) (hl : gaps.length = 120) : (slpL top gaps).Pairwise (· > ·) := by
  unfold slpL
  refine List.pairwise_map.mpr ((List.pairwise_lt_range (n := 120)).imp_of_mem fun {a b} ha hb hab => ?_)
  have hb := List.mem_range.mp hb
  have := take_sum (l := gaps) (i := a + 1) (j := b + 1) h (by omega) (by omega)
  show top - (gaps.take (b + 1)).sum < top - (gaps.take (a + 1)).sum
  omega
theorem ev2_map {α β : Type} (f : α → β) : ∀ l : List α, L2.ev2 (l.map f) = (L2.ev2 l).map f
  | [] => rfl
  | [x] => rfl
  | x :: y :: r => by
    show f x :: L2.ev2 (r.map f) = f x :: (L2.ev2 r).map f
    rw [ev2_map f r]
theorem ev2_dI (l : List Int) (k : Nat) : L2.ev2 ((dI l).drop k) = dI (L2.ev2 (l.drop k)) := by
  unfold dI
  rw [← List.map_drop, ev2_map]
theorem dI_drop (l : List Int) (k : Nat) : (dI l).drop k = dI (l.drop k) := by unfold dI; rw [List.map_drop]
def fibs (n : Nat) : List Int := (List.range n).map fibL
theorem fibs_len (n : Nat) : (fibs n).length = n := by unfold fibs; simp
theorem fibs_get {n k : Nat} (h : k < n) : (fibs n)[k]? = some (fibL k) := by unfold fibs; rw [List.getElem?_map, List.getElem?_range h]; rfl
theorem fibs_succ (n : Nat) : fibs (n + 1) = fibs n ++ [fibL n] := by unfold fibs; rw [List.range_succ, List.map_append]; rfl
theorem fib_at {n k : Nat} (h : k < n) : atI (dI (fibs n)) (k : Int) = some (.int (fibL k)) := atI_nat (by unfold dI; rw [List.getElem?_map, fibs_get h]; rfl)
theorem fib_back {n j : Nat} {i : Int} (h : (i : Int) = -(j : Int)) (h1 : 1 ≤ j) (h2 : j ≤ n) : atI (dI (fibs n)) i = some (.int (fibL (n - j))) := by
  unfold atI ixN
  rw [ints_len, fibs_len, if_neg (by omega), if_pos (by omega)]
  show (dI (fibs n))[(i + (n : Int)).toNat]? = _
  rw [show (i + (n : Int)).toNat = n - j by omega]
  unfold dI
  rw [List.getElem?_map, fibs_get (by omega)]
  rfl
theorem min_le_some (n : Int) (ns : List Int) : ∃ x ∈ n :: ns, x ≤ ns.foldl min n := ⟨_, foldl_min_mem, Int.le_refl _⟩
section
abbrev rho (w0 : Option Cell) (w2 : Option Cell) (w3 : Option Cell) (w5 : Option Cell) (w6 : Option Cell) (w7 : Option Cell) (w8 : Option Cell) (w9 : Option Cell) (w10 : Option Cell) (w13 : Option Cell) (w15 : Option Cell) (w16 : Option Cell) (w17 : Option Cell) (w18 : Option Cell) : Ro := [w0, none, w2, w3, none, w5, w6, w7, w8, w9, w10, none, none, w13, none, w15, w16, w17, w18]
variable {w0 w2 w3 w5 w6 w7 w8 w9 w10 w13 w15 w16 w17 w18 : Option Cell}
abbrev vLi (l : List Int) : Option Cell := some (.val (.lst (dI l)))
variable {P : PEnds} {a0 q6 : Addr} {zs : List D} {n : Nat} {top : Int} {gaps sl cuts fills : List Int} {m : Nat}
theorem s1 (hB : Bx n zs) (hn : n ≤ 100000000) (hP : ∀ top gaps zs, gaps.length = 120 → (∀ x ∈ gaps, (1 : Int) ≤ x) → Bx (n + 1000) zs → P.nx (rho (vo a0 zs) (vI top) (vLi gaps) w5 w6 w7 w8 w9 w10 w13 w15 w16 w17 w18)) : T__law_right_1 (g_take 100000000000000) P (rho (vo a0 zs) w2 w3 w5 w6 w7 w8 w9 w10 w13 w15 w16 w17 w18) := by
  refine ⟨zs, rfl, rfl, n, 1000000, by omega, hB, rfl, by decide, by decide, fun t zs1 t1 t2 b1 => ⟨by decide, by decide, ?_⟩⟩
  refine lcW_inv (fun ds acc ρ => ∃ (l : List Int) (zs : List D), ds.length + l.length = 120 ∧ acc = dI l ∧ (∀ x ∈ l, (1 : Int) ≤ x) ∧ Bx (n + 2 + 2 * l.length) zs ∧ ρ = (rho (vo a0 zs) w2 w3 w5 w6 w7 w8 w9 w10 w13 w15 w16 w17 w18)) (fun x r acc ρ K hK hI => ?_) (fun acc ρ hI => ?_) _ _ _ ⟨[], zs1, by simp [rangeD], rfl, by simp, b1, rfl⟩
  · obtain ⟨l, zs, h1, rfl, h3, h4, rfl⟩ := hI
    have h1' : r.length + 1 + l.length = 120 := h1
    refine ⟨zs, rfl, rfl, _, 50, by omega, h4, rfl, by decide, by decide, fun v zs1 v1 v2 v3 => ⟨small1000 (by rw [ints_len]; omega), ?_⟩⟩
    refine hK _ _ ⟨l ++ [1 + v], zs1, by simp; omega, ?_, fun x hx => ?_, v3.mono (by simp; omega), rfl⟩
    · unfold dI; rw [List.map_append]; rfl
    · rcases List.mem_append.mp hx with hx | hx
      · exact h3 x hx
      · rw [List.mem_singleton.mp hx]; omega
  · obtain ⟨l, zs, h1, rfl, h3, h4, rfl⟩ := hI
    have h1 : 0 + l.length = 120 := h1
    exact ⟨by show (2 : Nat) ≤ sizeLine; decide, rfl, rfl, hP _ l zs (by omega) h3 (h4.mono (by omega))⟩
theorem s2 (hg : gaps.length = 120) (hP : P.nx (rho w0 (vI top) (vLi gaps) (vLi (slpL top gaps)) w6 w7 w8 w9 w10 w13 w15 w16 w17 w18)) : T__law_right_2 P (rho w0 (vI top) (vLi gaps) w5 w6 w7 w8 w9 w10 w13 w15 w16 w17 w18) := by
  refine ⟨by decide, by decide, lc_rg 120 (fun j => .int (top - (gaps.take (j + 1)).sum)) rfl (fun j hj K hK => ?_) (by decide) ?_⟩
  · refine ⟨gaps.take (j + 1), ?_, hK _ rfl⟩
    have := cutD_to (xs := dI gaps) (k := j + 1)
    rw [dI_take] at this
    exact this
  · have e : (List.range 120).map (fun j => D.int (top - (gaps.take (j + 1)).sum)) = dI (slpL top gaps) := by unfold slpL dI; rw [List.map_map]; rfl
    rw [e]
    exact hP
theorem s3 (hP : ∀ q, P.nx (rho w0 w2 w3 w5 (vo q (dI (fibs 3))) w7 w8 w9 w10 w13 w15 w16 w17 w18)) : T__law_right_3 P (rho w0 w2 w3 w5 w6 w7 w8 w9 w10 w13 w15 w16 w17 w18) := ⟨by show (3 : Nat) ≤ sizeLine; decide, hP⟩
theorem s4 (hP : ∀ w7, P.nx (rho w0 w2 w3 w5 (vo q6 (dI (fibs 123))) w7 w8 w9 w10 w13 w15 w16 w17 w18)) : T__law_right_4 P (rho w0 w2 w3 w5 (vo q6 (dI (fibs 3))) w7 w8 w9 w10 w13 w15 w16 w17 w18) := by
  refine ⟨by decide, by decide, ?_⟩
  refine fr_rg 120 (fun j ρ => ∃ w7, ρ = (rho w0 w2 w3 w5 (vo q6 (dI (fibs (3 + j)))) w7 w8 w9 w10 w13 w15 w16 w17 w18)) rfl ⟨_, rfl⟩ (fun j ρ K hj hI hK => ?_) (fun ρ hI => ?_)
  · obtain ⟨w7, rfl⟩ := hI
    refine ⟨_, -1, .int (fibL (3 + j - 1)), rfl, rfl, fib_back rfl (Nat.le_refl _) (by omega), _, -2, .int (fibL (3 + j - 2)), rfl, rfl, fib_back rfl (by decide) (by omega), _, rfl, small1000 (by rw [ints_len, fibs_len]; omega), hK _ ⟨some (.val (.int (j : Int))), ?_⟩⟩
    have e : dI (fibs (3 + (j + 1))) = dI (fibs (3 + j)) ++ [.int (fibL (3 + j - 1) + fibL (3 + j - 2))] := by
      rw [show 3 + (j + 1) = (3 + j) + 1 by omega, fibs_succ, show fibL (3 + j) = fibL (3 + j - 1) + fibL (3 + j - 2) by
        rw [show 3 + j = (j + 1) + 2 by omega]; rfl]
      unfold dI; rw [List.map_append]; rfl
    rw [e]
    rfl
  · obtain ⟨w7, rfl⟩ := hI
    exact hP w7
theorem cm_turns {m : Nat} (hm : m ≤ 120) (pw : sl.Pairwise (· > ·)) (hl : sl.length = 120) : manyC (L2.ev2 (sl.take m)) (L2.ev2 ((sl.take m).drop 1)) = fibL m := by
  rw [manyC_turns (pw.sublist (List.take_sublist _ _)), List.length_take, hl, Nat.min_eq_left hm]
theorem s51 (hP : P.nx (rho w0 w2 w3 (vLi sl) w6 (vI (m : Int)) (vLi (L2.ev2 (sl.take m))) (vLi (L2.ev2 ((sl.take m).drop 1))) w10 w13 w15 w16 w17 w18)) : T__law_right_5_1 P (rho w0 w2 w3 (vLi sl) w6 (vI (m : Int)) w8 w9 w10 w13 w15 w16 w17 w18) := by
  have e : cutD (dI sl) none (some (m : Int)) = dI (sl.take m) := by rw [cutD_to, dI_take]
  have e0 : L2.ev2 ((cutD (dI sl) none (some (m : Int))).drop 0) = dI (L2.ev2 (sl.take m)) := by rw [e, ev2_dI]; rfl
  have e1 : L2.ev2 ((cutD (dI sl) none (some (m : Int))).drop 1) = dI (L2.ev2 ((sl.take m).drop 1)) := by rw [e, ev2_dI]
  show P.nx (rho w0 w2 w3 (vLi sl) w6 (vI (m : Int)) (some (.val (.lst (L2.ev2 ((cutD (dI sl) none (some (m : Int))).drop 0))))) (some (.val (.lst (L2.ev2 ((cutD (dI sl) none (some (m : Int))).drop 1))))) w10 w13 w15 w16 w17 w18)
  rw [e0, e1]
  exact hP
theorem s52 (hm : m ≤ 120) (pw : sl.Pairwise (· > ·)) (hl : sl.length = 120) (hP : P.nx (rho w0 w2 w3 (vLi sl) (vo q6 (dI (fibs 123))) (vI (m : Int)) (vLi (L2.ev2 (sl.take m))) (vLi (L2.ev2 ((sl.take m).drop 1))) w10 w13 w15 w16 w17 w18)) : T__law_right_5_2 g_cores_many (gS 4) P (rho w0 w2 w3 (vLi sl) (vo q6 (dI (fibs 123))) (vI (m : Int)) (vLi (L2.ev2 (sl.take m))) (vLi (L2.ev2 ((sl.take m).drop 1))) w10 w13 w15 w16 w17 w18) := by
  have lt : (sl.take m).length ≤ 120 := by rw [List.length_take]; omega
  have l1 := L2.ev2_len (sl.take m)
  have l2 := L2.ev2_len ((sl.take m).drop 1)
  rw [List.length_drop] at l2
  refine ⟨rfl, _, _, rfl, by omega, by omega, rfl, _, _, rfl, by omega, by omega, by show (2 : Nat) ≤ sizeLine; decide, ?_⟩
  rw [manyC_swap (L2.ev2 (sl.take m)) (L2.ev2 ((sl.take m).drop 1)), cm_turns hm pw hl]
  exact ⟨_, _, _, rfl, rfl, fib_at (by omega), by show (1 : Nat) ≤ sizeLine; decide, by decide, by decide, by show (1 : Nat) ≤ 1000; decide, rfl, .lst [.int (fibL m), .int (fibL m)], rfl, ⟨by show (2 : Nat) ≤ 1000; decide, fun x hx => by
    simp at hx
    subst hx
    trivial⟩, hP⟩
theorem s5 (hB : Bx n zs) (hn : n ≤ 100000000) (pw : sl.Pairwise (· > ·)) (hl : sl.length = 120) (hP : ∀ zs w7 w8 w9, Bx (n + 4) zs → P.nx (rho (vo a0 zs) w2 w3 (vLi sl) (vo q6 (dI (fibs 123))) w7 w8 w9 w10 w13 w15 w16 w17 w18)) : T__law_right_5 g_cores_many (g_take 100000000000000) (gS 4) P (rho (vo a0 zs) w2 w3 (vLi sl) (vo q6 (dI (fibs 123))) w7 w8 w9 w10 w13 w15 w16 w17 w18) := by
  refine ⟨zs, rfl, rfl, n, 12, by omega, hB, rfl, by decide, by decide, fun t z1 t1 t2 b1 => ?_⟩
  refine ⟨z1, rfl, rfl, _, 121, by omega, b1, rfl, by decide, by decide, fun u z2 u1 u2 b2 => ⟨by show (5 : Nat) ≤ sizeLine; decide, ?_⟩⟩
  obtain ⟨t, rfl⟩ := Int.eq_ofNat_of_zero_le t1
  obtain ⟨u, rfl⟩ := Int.eq_ofNat_of_zero_le u1
  refine fr_mp [0, 1, 2, t, u] (fun (x : Nat) => .int (x : Int)) (fun r ρ => (∀ x ∈ r, x ≤ 120) ∧ ∃ w7 w8 w9, ρ = (rho (vo a0 z2) w2 w3 (vLi sl) (vo q6 (dI (fibs 123))) w7 w8 w9 w10 w13 w15 w16 w17 w18)) rfl ⟨fun x hx => by simp at hx; omega, _, _, _, rfl⟩ (fun x r ρ K hI hK => ?_) (fun ρ hI => ?_)
  · obtain ⟨hr, w7, w8, w9, rfl⟩ := hI
    exact s51 (s52 (hr x List.mem_cons_self) pw hl (hK _ ⟨fun y hy => hr y (List.mem_cons_of_mem _ hy), _, _, _, rfl⟩))
  · obtain ⟨_, w7, w8, w9, rfl⟩ := hI
    exact hP z2 w7 w8 w9 (b2.mono (by omega))
theorem s6 (hB : Bx n zs) (hn : n ≤ 100000000) (hP : ∀ (m : Nat) zs, m < 60 → Bx (n + 2) zs → P.nx (rho (vo a0 zs) w2 w3 w5 w6 w7 w8 w9 (vI (m : Int)) w13 w15 w16 w17 w18)) : T__law_right_6 (g_take 100000000000000) P (rho (vo a0 zs) w2 w3 w5 w6 w7 w8 w9 w10 w13 w15 w16 w17 w18) :=
  ⟨zs, rfl, rfl, n, 60, by omega, hB, rfl, by decide, by decide, fun t zs1 t1 t2 b => by
    obtain ⟨m, rfl⟩ := Int.eq_ofNat_of_zero_le t1
    exact hP m zs1 (by omega) b⟩
theorem s7 (hB : Bx n zs) (hn : n ≤ 100000000) (hP : ∀ (u : Nat) zs, u < 59 → Bx (n + 2) zs → P.nx (rho (vo a0 zs) w2 w3 (vLi sl) w6 w7 (vLi (sl.take m)) (vLi ((sl.drop m).take (1 + u))) (vI (m : Int)) w13 w15 w16 w17 w18)) : T__law_right_7 (g_take 100000000000000) P (rho (vo a0 zs) w2 w3 (vLi sl) w6 w7 w8 w9 (vI (m : Int)) w13 w15 w16 w17 w18) := by
  refine ⟨zs, rfl, rfl, n, 59, by omega, hB, rfl, by decide, by decide, fun t zs1 t1 t2 b => ?_⟩
  obtain ⟨u, rfl⟩ := Int.eq_ofNat_of_zero_le t1
  have e0 : cutD (dI sl) none (some (m : Int)) = dI (sl.take m) := by rw [cutD_to, dI_take]
  have e1 : cutD (dI sl) (some (m : Int)) (some ((m : Int) + 1 + (u : Int))) = dI ((sl.drop m).take (1 + u)) := by
    rw [show (m : Int) + 1 + (u : Int) = ((m + 1 + u : Nat) : Int) by omega, cutD_mid (by omega), dI_drop, dI_take, show m + 1 + u - m = 1 + u by omega]
  show P.nx (rho (vo a0 zs1) w2 w3 (vLi sl) w6 w7 (some (.val (.lst (cutD (dI sl) none (some (m : Int)))))) (some (.val (.lst (cutD (dI sl) (some (m : Int)) (some ((m : Int) + 1 + (u : Int))))))) (vI (m : Int)) w13 w15 w16 w17 w18)
  rw [e0, e1]
  exact hP u zs1 (by omega) b
theorem s8 {u : Nat} (pw : sl.Pairwise (· > ·)) (hl : sl.length = 120) (hm : m < 60) (hu : u < 59) (hP : P.nx (rho w0 w2 w3 w5 w6 w7 (vLi (sl.take m)) (vLi ((sl.drop m).take (1 + u))) (vI (m : Int)) w13 w15 w16 w17 w18)) : T__law_right_8 g_cores_many P (rho w0 w2 w3 w5 w6 w7 (vLi (sl.take m)) (vLi ((sl.drop m).take (1 + u))) (vI (m : Int)) w13 w15 w16 w17 w18) := by
  have c1 : (sl.take m).length = m := by rw [List.length_take, hl]; omega
  have c2 : ((sl.drop m).take (1 + u)).length = 1 + u := by rw [List.length_take, List.length_drop, hl]; omega
  have e : sl.take m ++ (sl.drop m).take (1 + u) = sl.take (m + (1 + u)) := (List.take_add ..).symm
  have b := manyC_block (C := sl.take m) (F := (sl.drop m).take (1 + u)) (by rw [e]; exact pw.sublist (List.take_sublist _ _)) (fun z => by rw [z] at c2; simp at c2; omega)
  rw [c1] at b
  refine ⟨rfl, _, _, rfl, by omega, by omega, sh_int _, sh_int _, ?_⟩
  have ee : (!(D.int (1 + (m : Int))).eqv (.int (1 + (m : Int)))) = false := by rw [eqv_int]; simp
  rw [b]
  refine ifF ee ⟨rfl, _, _, rfl, by omega, by omega, sh_int _, sh_int _, ?_⟩
  rw [manyC_swap, b]
  exact ifF ee hP
def m10 (x : Int) : Int := 10 + x % 10000000
theorem m10_ge (x : Int) : 10 ≤ m10 x := by unfold m10; omega
theorem s9 (hB : Bx n zs) (hn : n ≤ 100000000) (hP : ∀ cuts fills zs, cuts.length ≤ 30 → fills.length ≤ 30 → (∀ x ∈ cuts, (10 : Int) ≤ x) → (∀ x ∈ fills, (10 : Int) ≤ x) → Bx (n + 5000) zs → P.nx (rho (vo a0 zs) w2 w3 w5 w6 w7 (vLi cuts) (vLi fills) w10 w13 w15 w16 w17 w18)) : T__law_right_9 g__law_books P (rho (vo a0 zs) w2 w3 w5 w6 w7 w8 w9 w10 w13 w15 w16 w17 w18) := by
  refine ⟨zs, rfl, rfl, n, 30, by omega, hB, rfl, by decide, fun cuts fills zs1 l1 l2 _ _ b => ?_⟩
  refine lc_mp [cuts, fills] (fun l => .lst (dI l)) (fun l => .lst (dI (l.map m10))) rfl (fun l hl K hK => ?_) (by show (2 : Nat) ≤ 1000; decide) ?_
  · refine lc_mp l (fun x => .int x) (fun x => .int (m10 x)) rfl (fun x _ K hK => ⟨by show (0 : Int) < 10000000; decide, hK _ rfl⟩) (by simp at hl; rcases hl with rfl | rfl <;> omega) ?_
    have e : l.map (fun x => D.int (m10 x)) = dI (l.map m10) := by unfold dI; rw [List.map_map]; rfl
    rw [e]
    exact hK _ rfl
  · refine ⟨rfl, rfl, hP (cuts.map m10) (fills.map m10) zs1 (by rw [List.length_map]; exact l1) (by rw [List.length_map]; exact l2) (fun x hx => ?_) (fun x hx => ?_) b⟩
    · obtain ⟨y, _, rfl⟩ := List.mem_map.mp hx
      exact m10_ge y
    · obtain ⟨y, _, rfl⟩ := List.mem_map.mp hx
      exact m10_ge y
theorem s10 (hB : Bx n zs) (hn : n ≤ 100000000) (h1 : cuts.length ≤ 30) (h2 : fills.length ≤ 30) (hP : ∀ b zs, (1 : Int) ≤ b → b ≤ 9 → Bx (n + 2) zs → P.nx (rho (vo a0 zs) w2 w3 w5 w6 (vI (manyC cuts fills)) (vLi cuts) (vLi fills) w10 (vI b) w15 w16 w17 w18)) : T__law_right_10 g_cores_many (g_take 100000000000000) P (rho (vo a0 zs) w2 w3 w5 w6 w7 (vLi cuts) (vLi fills) w10 w13 w15 w16 w17 w18) :=
  ⟨rfl, _, _, rfl, by omega, by omega, zs, rfl, rfl, n, 9, by omega, hB, rfl, by decide, by decide, fun t zs1 t1 t2 b => ⟨by show (2 : Nat) ≤ sizeLine; decide, rfl, rfl, hP (1 + t) zs1 (by omega) (by omega) b⟩⟩
theorem nf (x : Int) : (!(D.int x).eqv (.int x)) = false := by rw [eqv_int]; simp
theorem s11 (h1 : cuts.length ≤ 30) (h2 : fills.length ≤ 30) (hP : P.nx (rho w0 w2 w3 w5 w6 (vI (manyC cuts fills)) (vLi cuts) (vLi fills) w10 w13 w15 w16 w17 w18)) : T__law_right_11 g_cores_many P (rho w0 w2 w3 w5 w6 (vI (manyC cuts fills)) (vLi cuts) (vLi fills) w10 w13 w15 w16 w17 w18) := by
  refine ⟨rfl, _, _, rfl, by omega, by omega, sh_int _, sh_int _, ?_⟩
  rw [manyC_swap cuts fills]
  exact ifF (nf _) hP
theorem s12 {b : Int} (b1 : 1 ≤ b) (b2 : b ≤ 9) (h1 : cuts.length ≤ 30) (h2 : fills.length ≤ 30) (hP : P.nx (rho w0 w2 w3 w5 w6 (vI (manyC cuts fills)) (vLi cuts) (vLi fills) w10 (vI b) w15 w16 w17 w18)) : T__law_right_12 g_cores_many P (rho w0 w2 w3 w5 w6 (vI (manyC cuts fills)) (vLi cuts) (vLi fills) w10 (vI b) w15 w16 w17 w18) := by
  refine lc_mp cuts (fun x => .int x) (fun x => .int (b * x)) rfl (fun x _ K hK => ⟨.inl ⟨by omega, by omega⟩, hK _ rfl⟩) (by omega) ?_
  refine lc_mp fills (fun x => .int x) (fun x => .int (b * x)) rfl (fun x _ K hK => ⟨.inl ⟨by omega, by omega⟩, hK _ rfl⟩) (by omega) ?_
  have e : ∀ l : List Int, l.map (fun x => D.int (b * x)) = dI (l.map (b * ·)) := fun l => by unfold dI; rw [List.map_map]; rfl
  rw [e, e]
  refine ⟨rfl, _, _, rfl, by rw [List.length_map]; omega, by rw [List.length_map]; omega, sh_int _, sh_int _, ?_⟩
  rw [manyC_scale (by omega)]
  exact ifF (nf _) hP
theorem s13 (hB : Bx n zs) (hn : n ≤ 100000000) (h1 : cuts.length ≤ 30) (h2 : fills.length ≤ 30) (hP : ∀ zs w15 w16, Bx (n + 4) zs → P.nx (rho (vo a0 zs) w2 w3 w5 w6 (vI (manyC cuts fills)) (vLi cuts) (vLi fills) w10 w13 w15 w16 w17 w18)) : T__law_right_13 g_cores_many (g_take 100000000000000) P (rho (vo a0 zs) w2 w3 w5 w6 (vI (manyC cuts fills)) (vLi cuts) (vLi fills) w10 w13 w15 w16 w17 w18) := by
  refine ⟨by show (0 : Nat) ≤ sizeLine; decide, sh_lstI _, sh_lstI [], ifB (fun hc => ?_) (fun _ => hP zs _ _ (hB.mono (by omega)))⟩
  have hne : cuts ≠ [] := fun z => by subst z; exact absurd hc (by decide)
  have h0 : 0 < cuts.length := List.length_pos_iff.mpr hne
  refine ⟨zs, rfl, rfl, n, ((dI cuts).length : Nat), by omega, hB, rfl, by rw [ints_len]; omega, by rw [ints_len]; omega, fun t z1 t1 t2 b1 => ?_⟩
  rw [ints_len] at t2
  obtain ⟨k, rfl⟩ := Int.eq_ofNat_of_zero_le t1
  have ek : (1 : Int) + (k : Int) = ((1 + k : Nat) : Int) := by omega
  have eA : cutD (dI cuts) none (some (1 + (k : Int))) = dI (cuts.take (1 + k)) := by rw [ek, cutD_to, dI_take]
  have eB : cutD (dI cuts) (some (1 + (k : Int))) none = dI (cuts.drop (1 + k)) := by rw [ek, cutD_from, dI_drop]
  obtain ⟨x, r, ex⟩ : ∃ x r, cuts.take (1 + k) = x :: r := by
    cases cuts with
    | nil => exact absurd rfl hne
    | cons x r => exact ⟨x, r.take k, by rw [Nat.add_comm, List.take_succ_cons]⟩
  refine ⟨x, r, eA.trans (by rw [ex]), z1, rfl, rfl, _, 9, by omega, b1, rfl, by decide, by decide, fun d z2 d1 d2 b2 => ⟨by show (1 : Nat) ≤ sizeLine; decide, ?_⟩⟩
  obtain ⟨y, hy, hyl⟩ := min_le_some x r
  have tl : (cuts.take (1 + k)).length ≤ 30 := by rw [List.length_take]; omega
  have dl : (cuts.drop (1 + k)).length ≤ 30 := by rw [List.length_drop]; omega
  have eM : cutD (dI cuts) none (some (1 + (k : Int))) ++ [D.int (r.foldl min x + d)] ++ cutD (dI cuts) (some (1 + (k : Int))) none = dI (cuts.take (1 + k) ++ (r.foldl min x + d) :: cuts.drop (1 + k)) := by
    rw [eA, eB, List.append_assoc]
    unfold dI
    rw [List.map_append]
    rfl
  refine ⟨Nat.le_trans (show (cutD (dI cuts) none (some (1 + (k : Int)))).length + 1 ≤ 200 by rw [eA, ints_len]; omega) (by decide), Nat.le_trans (show (cutD (dI cuts) none (some (1 + (k : Int))) ++ [D.int (r.foldl min x + d)]).length + (cutD (dI cuts) (some (1 + (k : Int))) none).length ≤ 200 by rw [eA, eB, List.length_append, ints_len, ints_len]; show _ + 1 + _ ≤ 200; omega) (by decide), ?_⟩
  rw [eM]
  refine ⟨rfl, _, _, rfl, by rw [List.length_append, List.length_cons]; omega, by omega, sh_int _, sh_int _, ?_⟩
  rw [manyC_more (A := cuts.take (1 + k)) (x := y) (by rw [ex]; exact hy) (by omega), List.take_append_drop]
  exact ifF (nf _) (hP z2 _ _ (b2.mono (by omega)))
theorem s14 (hB : Bx n zs) (hn : n ≤ 100000000) (hP : ∀ L zs, (0 : Int) ≤ L → L < 10 → Bx (n + 2) zs → P.nx (rho (vo a0 zs) w2 w3 w5 w6 w7 w8 w9 w10 w13 w15 w16 (vI L) w18)) : T__law_right_14 (g_take 100000000000000) P (rho (vo a0 zs) w2 w3 w5 w6 w7 w8 w9 w10 w13 w15 w16 w17 w18) :=
  ⟨zs, rfl, rfl, n, 10, by omega, hB, rfl, by decide, by decide, fun t zs1 t1 t2 b => hP t zs1 t1 t2 b⟩
theorem dI_one (l : List Int) (x : Int) : dI l ++ [.int x] = dI (l ++ [x]) := by unfold dI; rw [List.map_append]; rfl
theorem szl {l : List Int} (h : l.length ≤ 30) : (dI l).length + 1 ≤ sizeLine := Nat.le_trans (show (dI l).length + 1 ≤ 200 by rw [ints_len]; omega) (by decide)
theorem s15 {L : Int} (h1 : cuts.length ≤ 30) (h2 : fills.length ≤ 30) (hP : P.nx (rho w0 w2 w3 w5 w6 w7 (vLi cuts) (vLi fills) w10 w13 w15 w16 (vI L) (vI (manyC (cuts ++ [L]) (fills ++ [L]))))) : T__law_right_15 g_cores_many P (rho w0 w2 w3 w5 w6 w7 (vLi cuts) (vLi fills) w10 w13 w15 w16 (vI L) w18) := by
  refine ⟨by show (1 : Nat) ≤ sizeLine; decide, szl h1, by show (1 : Nat) ≤ sizeLine; decide, szl h2, ?_⟩
  rw [dI_one, dI_one]
  exact ⟨rfl, _, _, rfl, by rw [List.length_append]; show _ + 1 ≤ 400; omega, by rw [List.length_append]; show _ + 1 ≤ 400; omega, hP⟩
theorem s16 {L : Int} (h1 : cuts.length ≤ 30) (h2 : fills.length ≤ 30) (g1 : ∀ x ∈ cuts, L < x) (g2 : ∀ x ∈ fills, L < x) (hP : P.rt (.val (.bl true)) (rho w0 w2 w3 w5 w6 w7 (vLi cuts) (vLi fills) w10 w13 w15 w16 (vI L) (vI (manyC (cuts ++ [L]) (fills ++ [L]))))) : T__law_right_16 g_cores_many P (rho w0 w2 w3 w5 w6 w7 (vLi cuts) (vLi fills) w10 w13 w15 w16 (vI L) (vI (manyC (cuts ++ [L]) (fills ++ [L])))) := by
  refine ⟨by show (1 : Nat) ≤ sizeLine; decide, szl h1, ?_⟩
  rw [dI_one]
  refine ⟨rfl, _, _, rfl, by rw [List.length_append]; show _ + 1 ≤ 400; omega, by omega, by show (1 : Nat) ≤ sizeLine; decide, szl h2, ?_⟩
  rw [dI_one]
  refine ⟨rfl, _, _, rfl, by omega, by rw [List.length_append]; show _ + 1 ≤ 400; omega, sh_int _, sh_int _, ?_⟩
  rw [manyC_least g1 g2]
  have e : (D.int (manyC (cuts ++ [L]) fills + manyC cuts (fills ++ [L]))).eqv (.int (manyC (cuts ++ [L]) fills + manyC cuts (fills ++ [L]))) = true := by rw [eqv_int]; simp
  rw [e]
  rw [manyC_least g1 g2] at hP
  exact hP
end
abbrev g__law_right : FB := gRight
theorem rd__law_right : ∀ a xs ds C, ds.length + 1 = 1 → g__law_right xs ds C → T__law_right g_cores_many (g_take 100000000000000) (gS 4) g__law_books (EB a C) (startB N__law_right a xs ds) := by
  rintro a0 xs ds C - ⟨m, hm, hB, rfl, hC⟩
  refine s1 hB (by omega) fun top gaps zs gl g1 hB => ?_
  refine s2 gl ?_
  have pw := slpL_pw (top := top) g1 gl
  have hl := slpL_len top gaps
  generalize slpL top gaps = sl at pw hl
  refine s3 fun q => s4 fun w7 => s5 hB (by omega) pw hl fun zs w7 w8 w9 hB => ?_
  refine s6 hB (by omega) fun k zs hk hB => ?_
  refine s7 hB (by omega) fun u zs hu hB => ?_
  refine s8 pw hl hk hu ?_
  refine s9 hB (by omega) fun cuts fills zs h1 h2 c10 f10 hB => ?_
  refine s10 hB (by omega) h1 h2 fun b zs b1 b2 hB => ?_
  refine s11 h1 h2 (s12 b1 b2 h1 h2 ?_)
  refine s13 hB (by omega) h1 h2 fun zs w15 w16 hB => ?_
  refine s14 hB (by omega) fun L zs L0 L1 hB => ?_
  refine s15 h1 h2 (s16 h1 h2 (fun x hx => by have := c10 x hx; omega) (fun x hx => by have := f10 x hx; omega) ?_)
  exact ⟨zs, rfl, hC _ (hB.mono (by omega))⟩
theorem rd_law : ∀ ds C, ds.length = 1 → g_law ds C → T_law g__law_box g__law_right (EA C) (startA N_law ds) := rd_Tlaw N_law rfl 1 (by decide)
end Pl
namespace Pl
open PySem PySem.Spec PyProof.Rows L2
def topS (i : Nat) : Stmt := PySem.Challenge.pw_dunebooks_k78_whole_cores_counted_by_slo.main.body.getD i (.Pass ⟨0, 0, 0, 0⟩)
abbrev s_are_contrary : Stmt := topS 1
abbrev NN_are_contrary : List Str := [("one" : Str), ("other" : Str), ("of_cut" : Str), ("of_fill" : Str)]
theorem sc_are_contrary : FnScope NN_are_contrary ["one", "other"] (defScope s_are_contrary) := ⟨rfl, rfl, rfl, by decide +kernel, rfl, by decide +kernel, by decide +kernel⟩
abbrev s_first_gentle : Stmt := topS 3
abbrev NN_first_gentle : List Str := [("slopes" : Str), ("slope" : Str), ("number" : Str), ("other" : Str)]
theorem sc_first_gentle : FnScope NN_first_gentle ["slopes", "slope"] (defScope s_first_gentle) := ⟨rfl, rfl, rfl, by decide +kernel, rfl, by decide +kernel, by decide +kernel⟩
abbrev s_meetings : Stmt := topS 4
abbrev NN_meetings : List Str := [("cuts" : Str), ("fills" : Str), ("pairs" : Str), ("slope" : Str), ("pair" : Str)]
theorem sc_meetings : FnScope NN_meetings ["cuts", "fills"] (defScope s_meetings) := ⟨rfl, rfl, rfl, by decide +kernel, rfl, by decide +kernel, by decide +kernel⟩
abbrev s_both_words : Stmt := topS 5
abbrev NN_both_words : List Str := [("pair" : Str), ("cut" : Str), ("fill" : Str)]
theorem sc_both_words : FnScope NN_both_words ["pair"] (defScope s_both_words) := ⟨rfl, rfl, rfl, by decide +kernel, rfl, by decide +kernel, by decide +kernel⟩
abbrev s_ways_to : Stmt := topS 6
abbrev NN_ways_to : List Str := [("word" : Str), ("ahead" : Str), ("many" : Str), ("other" : Str), ("ways" : Str)]
theorem sc_ways_to : FnScope NN_ways_to ["word", "ahead", "many"] (defScope s_ways_to) := ⟨rfl, rfl, rfl, by decide +kernel, rfl, by decide +kernel, by decide +kernel⟩
abbrev s_cores_many : Stmt := topS 7
abbrev NN_cores_many : List Str := [("cuts" : Str), ("fills" : Str), ("met" : Str), ("many" : Str), ("ahead" : Str), ("after" : Str), ("word" : Str)]
theorem sc_cores_many : FnScope NN_cores_many ["cuts", "fills"] (defScope s_cores_many) := ⟨rfl, rfl, rfl, by decide +kernel, rfl, by decide +kernel, by decide +kernel⟩
abbrev s__law_cell_at : Stmt := topS 9
abbrev NN__law_cell_at : List Str := [("_law_script" : Str), ("_law_k" : Str)]
theorem sc__law_cell_at : FnScope NN__law_cell_at ["_law_script", "_law_k"] (defScope s__law_cell_at) := ⟨rfl, rfl, rfl, by decide +kernel, rfl, by decide +kernel, by decide +kernel⟩
abbrev s__law_box : Stmt := topS 10
abbrev NN__law_box : List Str := [("_law_script" : Str), ("_law_k" : Str), ("_law_cell" : Str)]
theorem sc__law_box : FnScope NN__law_box ["_law_script", "_law_k"] (defScope s__law_box) := ⟨rfl, rfl, rfl, by decide +kernel, rfl, by decide +kernel, by decide +kernel⟩
abbrev s__law_take : Stmt := topS 11
abbrev NN__law_take : List Str := [("_law_box_here" : Str), ("_law_size" : Str), ("_law_told" : Str), ("_law_once" : Str), ("_law_twice" : Str)]
theorem sc__law_take : FnScope NN__law_take ["_law_box_here", "_law_size"] (defScope s__law_take) := ⟨rfl, rfl, rfl, by decide +kernel, rfl, by decide +kernel, by decide +kernel⟩
abbrev s__law_same : Stmt := topS 12
abbrev NN__law_same : List Str := [("_law_told" : Str), ("_law_due" : Str), ("_law_one" : Str), ("_law_two" : Str)]
theorem sc__law_same : FnScope NN__law_same ["_law_told", "_law_due"] (defScope s__law_same) := ⟨rfl, rfl, rfl, by decide +kernel, rfl, by decide +kernel, by decide +kernel⟩
abbrev s__law_slope : Stmt := topS 13
abbrev NN__law_slope : List Str := [("_law_box_here" : Str)]
theorem sc__law_slope : FnScope NN__law_slope ["_law_box_here"] (defScope s__law_slope) := ⟨rfl, rfl, rfl, by decide +kernel, rfl, by decide +kernel, by decide +kernel⟩
abbrev s__law_books : Stmt := topS 14
abbrev NN__law_books : List Str := [("_law_box_here" : Str), ("_law_size" : Str), ("_law_cuts" : Str), ("_law_fills" : Str), ("_law_way" : Str), ("_law_slope_here" : Str), ("_law_turn" : Str), ("_law_book" : Str)]
theorem sc__law_books : FnScope NN__law_books ["_law_box_here", "_law_size"] (defScope s__law_books) := ⟨rfl, rfl, rfl, by decide +kernel, rfl, by decide +kernel, by decide +kernel⟩
abbrev s__law_right : Stmt := topS 15
abbrev NN__law_right : List Str := [("_law_box_here" : Str), ("_law_turn" : Str), ("_law_top" : Str), ("_law_gaps" : Str), ("_law_k" : Str), ("_law_slopes" : Str), ("_law_due" : Str), ("_law_many" : Str), ("_law_cuts" : Str), ("_law_fills" : Str), ("_law_at" : Str), ("_law_book" : Str), ("_law_slope_here" : Str), ("_law_by" : Str), ("_law_one" : Str), ("_law_spot" : Str), ("_law_more" : Str), ("_law_least" : Str), ("_law_both" : Str)]
theorem sc__law_right : FnScope NN__law_right ["_law_box_here"] (defScope s__law_right) := ⟨rfl, rfl, rfl, by decide +kernel, rfl, by decide +kernel, by decide +kernel⟩
abbrev s_law : Stmt := topS 16
abbrev NN_law : List Str := [("_law_script" : Str), ("_law_k" : Str), ("_law_box_here" : Str), ("_law_turn" : Str)]
theorem sc_law : FnScope NN_law ["_law_script"] (defScope s_law) := ⟨rfl, rfl, rfl, by decide +kernel, rfl, by decide +kernel, by decide +kernel⟩
set_option maxHeartbeats 4000000 in
structure Tx (K : PySem.W.Frag) (mg : Str → Option Value) where
  f_are_contrary : Addr
  fd_are_contrary : FuncData
  F_are_contrary : Fun K "are_contrary" "are_contrary" s_are_contrary f_are_contrary fd_are_contrary
  m_are_contrary : mg "are_contrary" = some (.ref f_are_contrary)
  b_are_contrary : L2.Binds K fd_are_contrary ["one", "other"] []
  f_first_gentle : Addr
  fd_first_gentle : FuncData
  F_first_gentle : Fun K "first_gentle" "first_gentle" s_first_gentle f_first_gentle fd_first_gentle
  m_first_gentle : mg "first_gentle" = some (.ref f_first_gentle)
  b_first_gentle : L2.Binds K fd_first_gentle ["slopes", "slope"] []
  f_meetings : Addr
  fd_meetings : FuncData
  F_meetings : Fun K "meetings" "meetings" s_meetings f_meetings fd_meetings
  m_meetings : mg "meetings" = some (.ref f_meetings)
  b_meetings : L2.Binds K fd_meetings ["cuts", "fills"] []
  f_both_words : Addr
  fd_both_words : FuncData
  F_both_words : Fun K "both_words" "both_words" s_both_words f_both_words fd_both_words
  m_both_words : mg "both_words" = some (.ref f_both_words)
  b_both_words : L2.Binds K fd_both_words ["pair"] []
  f_ways_to : Addr
  fd_ways_to : FuncData
  F_ways_to : Fun K "ways_to" "ways_to" s_ways_to f_ways_to fd_ways_to
  m_ways_to : mg "ways_to" = some (.ref f_ways_to)
  b_ways_to : L2.Binds K fd_ways_to ["word", "ahead", "many"] []
  f_cores_many : Addr
  fd_cores_many : FuncData
  F_cores_many : Fun K "cores_many" "cores_many" s_cores_many f_cores_many fd_cores_many
  m_cores_many : mg "cores_many" = some (.ref f_cores_many)
  b_cores_many : L2.Binds K fd_cores_many ["cuts", "fills"] []
  f__law_cell_at : Addr
  fd__law_cell_at : FuncData
  F__law_cell_at : Fun K "_law_cell_at" "_law_cell_at" s__law_cell_at f__law_cell_at fd__law_cell_at
  m__law_cell_at : mg "_law_cell_at" = some (.ref f__law_cell_at)
  b__law_cell_at : L2.Binds K fd__law_cell_at ["_law_script", "_law_k"] []
  f__law_box : Addr
  fd__law_box : FuncData
  F__law_box : Fun K "_law_box" "_law_box" s__law_box f__law_box fd__law_box
  m__law_box : mg "_law_box" = some (.ref f__law_box)
  b__law_box : L2.Binds K fd__law_box ["_law_script", "_law_k"] []
  f__law_take : Addr
  fd__law_take : FuncData
  F__law_take : Fun K "_law_take" "_law_take" s__law_take f__law_take fd__law_take
  m__law_take : mg "_law_take" = some (.ref f__law_take)
  b__law_take : L2.Binds K fd__law_take ["_law_box_here", "_law_size"] []
  f__law_same : Addr
  fd__law_same : FuncData
  F__law_same : Fun K "_law_same" "_law_same" s__law_same f__law_same fd__law_same
  m__law_same : mg "_law_same" = some (.ref f__law_same)
  b__law_same : L2.Binds K fd__law_same ["_law_told", "_law_due"] []
  f__law_slope : Addr
  fd__law_slope : FuncData
  F__law_slope : Fun K "_law_slope" "_law_slope" s__law_slope f__law_slope fd__law_slope
  m__law_slope : mg "_law_slope" = some (.ref f__law_slope)
  b__law_slope : L2.Binds K fd__law_slope ["_law_box_here"] []
  f__law_books : Addr
  fd__law_books : FuncData
  F__law_books : Fun K "_law_books" "_law_books" s__law_books f__law_books fd__law_books
  m__law_books : mg "_law_books" = some (.ref f__law_books)
  b__law_books : L2.Binds K fd__law_books ["_law_box_here", "_law_size"] []
  f__law_right : Addr
  fd__law_right : FuncData
  F__law_right : Fun K "_law_right" "_law_right" s__law_right f__law_right fd__law_right
  m__law_right : mg "_law_right" = some (.ref f__law_right)
  b__law_right : L2.Binds K fd__law_right ["_law_box_here"] []
  f_law : Addr
  fd_law : FuncData
  F_law : Fun K "law" "law" s_law f_law fd_law
  m_law : mg "law" = some (.ref f_law)
  b_law : L2.Binds K fd_law ["_law_script"] []
  z_abs : mg "abs" = none
  z_all : mg "all" = none
  z_bool : mg "bool" = none
  z_enumerate : mg "enumerate" = none
  z_int : mg "int" = none
  z_isinstance : mg "isinstance" = none
  z_len : mg "len" = none
  z_list : mg "list" = none
  z_max : mg "max" = none
  z_min : mg "min" = none
  z_range : mg "range" = none
  z_sorted : mg "sorted" = none
  z_str : mg "str" = none
  z_sum : mg "sum" = none
  z_tuple : mg "tuple" = none
  z_zip : mg "zip" = none
section
variable {P : Program} {w : World} {K : PySem.W.Frag} {mg : Str → Option Value} {base : Heap} (Z : Tx K mg)
include Z
set_option maxHeartbeats 4000000 in
theorem bd_are_contrary {k : Nat} : ∀ (cdv : Value) (A : Around) (outer : List Env) (s : Shared) (H : Hp) (E : XK), Room k (A.deeper (envOfC "are_contrary" (defScope s_are_contrary) s.heap.objs.size Z.f_are_contrary cdv)) → ∃ t, PPSs (cxOf CX0 P w K mg base NN_are_contrary "are_contrary" (defScope s_are_contrary) Z.f_are_contrary cdv A outer s H E).nox (defBody s_are_contrary) t (T_are_contrary) :=
  fun cdv A outer s H E hr => ⟨_, (ppss_cons (pps_if (ppt_cmp (cm_eq (hu64 hr)) (ppe_ixO 0 ppe_int) (ppe_ixO 1 ppe_int) (nomark _))
    (ppss_one (pps_ret (ppc_val ppe_bl)))
    ppss_nil)
    (ppss_cons (pps_asg (ppe_ifExp (ppt_cmp (cm_eq (hu64 hr)) (ppe_ixO 0 ppe_int) ppe_str (nomark _)) (ppe_tup (ppa_cons (ppe_var 0) (ppa_cons (ppe_var 1) ppa_nil))) (ppe_tup (ppa_cons (ppe_var 1) (ppa_cons (ppe_var 0) ppa_nil)))) (ptg_tup (n := 2) rfl (ptgs_cons (ptg_name (i := 2) sc_are_contrary.nd) (ptgs_cons (ptg_name (i := 3) sc_are_contrary.nd) ptgs_nil))))
    (ppss_one (pps_ret (ppc_val (ppe_and (ppe_cmp cm_le (ppe_ixO 3 ppe_int) (ppe_ixO 2 ppe_int) (nomark _)) (ppe_one (ppe_cmp cm_le (ppe_ixO 2 ppe_int) (ppe_ixO 3 ppe_int) (nomark _)))))))))⟩
set_option maxHeartbeats 4000000 in
theorem bd_first_gentle {k : Nat} : ∀ (cdv : Value) (A : Around) (outer : List Env) (s : Shared) (H : Hp) (E : XK), Room k (A.deeper (envOfC "first_gentle" (defScope s_first_gentle) s.heap.objs.size Z.f_first_gentle cdv)) → ∃ t, PPSs (cxOf CX0 P w K mg base NN_first_gentle "first_gentle" (defScope s_first_gentle) Z.f_first_gentle cdv A outer s H E).nox (defBody s_first_gentle) t (T_first_gentle) :=
  fun cdv A outer s H E hr => ⟨_, (ppss_cons (pps_for PassesOwn.never rfl (ppi_e (by rfl) Z.z_enumerate (ppa_cons (ppe_var 0) ppa_nil)) (ptg_tup (n := 2) rfl (ptgs_cons (ptg_name (i := 2) sc_first_gentle.nd) (ptgs_cons (ptg_name (i := 3) sc_first_gentle.nd) ptgs_nil)))
    (ppss_one (pps_if (ppt_cmp cm_le (ppe_var 3) (ppe_var 1) (nomark _))
    (ppss_one (pps_ret (ppc_move 2)))
    ppss_nil)))
    (ppss_one (pps_ret (ppc_val ppe_non))))⟩
set_option maxHeartbeats 4000000 in
theorem bd_meetings {k : Nat} {g_first_gentle : FA} (O_first_gentle : FnOk P w K mg base CX0 k Z.f_first_gentle Z.fd_first_gentle [("slopes" : Str), ("slope" : Str)] (spA K 2 g_first_gentle)) : ∀ (cdv : Value) (A : Around) (outer : List Env) (s : Shared) (H : Hp) (E : XK), Room k (A.deeper (envOfC "meetings" (defScope s_meetings) s.heap.objs.size Z.f_meetings cdv)) → ∃ t, PPSs (cxOf CX0 P w K mg base NN_meetings "meetings" (defScope s_meetings) Z.f_meetings cdv A outer s H E).nox (defBody s_meetings) t (T_meetings g_first_gentle) :=
  fun cdv A outer s H E hr => ⟨_, (ppss_cons (pps_set (i := 2) sc_meetings.nd (ppc_lst ppa_nil))
    (ppss_cons (pps_for PassesOwn.never rfl (ppi_seq (ppe_sortR (by rfl) Z.z_sorted (ppe_lst (ppa_star (ppe_var 0) (ppa_star (ppe_var 1) ppa_nil))))) (ptg_name (i := 3) sc_meetings.nd)
    (ppss_cons (pps_set (i := 4) sc_meetings.nd (ppc_val (ppe_tup (ppa_cons (ppe_frz (ppc_callA O_first_gentle hr (by rfl) Z.m_first_gentle Z.F_first_gentle.kp Z.b_first_gentle (ppa_cons (ppe_var 0) (ppa_cons (ppe_var 3) ppa_nil)))) (ppa_cons (ppe_frz (ppc_callA O_first_gentle hr (by rfl) Z.m_first_gentle Z.F_first_gentle.kp Z.b_first_gentle (ppa_cons (ppe_var 1) (ppa_cons (ppe_var 3) ppa_nil)))) ppa_nil)))))
    (ppss_one (pps_if (PPW.ppt (ppw_and (ppt_cmp (cm_ninT (hu65 hr)) ppe_non (ppe_var 4) rfl) (ppw_and1 (ppt_peek (ppt_cmp (cm_nin (hu65 hr)) (ppe_var 4) (ppe_var 2) rfl)))))
    (ppss_one (pps_append 2 (ppe_var 4)))
    ppss_nil))))
    (ppss_one (pps_ret (ppc_move 2)))))⟩
set_option maxHeartbeats 4000000 in
theorem bd_both_words {k : Nat} : ∀ (cdv : Value) (A : Around) (outer : List Env) (s : Shared) (H : Hp) (E : XK), Room k (A.deeper (envOfC "both_words" (defScope s_both_words) s.heap.objs.size Z.f_both_words cdv)) → ∃ t, PPSs (cxOf CX0 P w K mg base NN_both_words "both_words" (defScope s_both_words) Z.f_both_words cdv A outer s H E).nox (defBody s_both_words) t (T_both_words) :=
  fun cdv A outer s H E hr => ⟨_, (ppss_cons (pps_asg (ppe_var 0) (ptg_tup (n := 2) rfl (ptgs_cons (ptg_name (i := 1) sc_both_words.nd) (ptgs_cons (ptg_name (i := 2) sc_both_words.nd) ptgs_nil))))
    (ppss_one (pps_ret (ppc_val (ppe_tup (ppa_cons (ppe_tup (ppa_cons ppe_str (ppa_cons (ppe_var 1) (ppa_cons (ppe_var 2) ppa_nil)))) (ppa_cons (ppe_tup (ppa_cons ppe_str (ppa_cons (ppe_var 1) (ppa_cons (ppe_var 2) ppa_nil)))) ppa_nil)))))))⟩
set_option maxHeartbeats 4000000 in
theorem bd_ways_to {k : Nat} {g_are_contrary : FA} (O_are_contrary : FnOk P w K mg base CX0 k Z.f_are_contrary Z.fd_are_contrary [("one" : Str), ("other" : Str)] (spA K 2 g_are_contrary)) : ∀ (cdv : Value) (A : Around) (outer : List Env) (s : Shared) (H : Hp) (E : XK), Room k (A.deeper (envOfC "ways_to" (defScope s_ways_to) s.heap.objs.size Z.f_ways_to cdv)) → ∃ t, PPSs (cxOf CX0 P w K mg base NN_ways_to "ways_to" (defScope s_ways_to) Z.f_ways_to cdv A outer s H E).nox (defBody s_ways_to) t (T_ways_to g_are_contrary) :=
  fun cdv A outer s H E hr => ⟨_, (ppss_one (pps_ret (ppc_val (ppe_callB (cr_sumA rfl) cp_sumA (by rfl) Z.z_sum (by decide +kernel) (ppa_cons (ppe_lcL (own := [("other", 3), ("ways", 4)]) rfl sc_ways_to.nd (ppi_z2 (by rfl) Z.z_zip (ppa_cons (ppe_var 1) (ppa_cons (ppe_var 2) ppa_nil))) (blkOk_by (N := NN_ways_to) (sc := defScope s_ways_to) (by decide +kernel)) (fun _ _ _ _ _ => ((ptg_tup (n := 2) rfl (ptgs_cons (ptg_name (i := 3) sc_ways_to.nd) (ptgs_cons (ptg_name (i := 4) sc_ways_to.nd) ptgs_nil)))).lift) (fun _ _ _ _ _ => ((ppts_one (ppt_not (ppt_val (ppe_frz (ppc_callA O_are_contrary hr (by rfl) Z.m_are_contrary Z.F_are_contrary.kp Z.b_are_contrary (ppa_cons (ppe_var 3) (ppa_cons (ppe_var 0) ppa_nil)))))))).lift) (fun _ _ _ _ _ => ((ppe_var 4)).lift)) ppa_nil)))))⟩
set_option maxHeartbeats 4000000 in
theorem bd_cores_many {k : Nat} {g_meetings : FA} (O_meetings : FnOk P w K mg base CX0 k Z.f_meetings Z.fd_meetings [("cuts" : Str), ("fills" : Str)] (spA K 2 g_meetings)) {g_both_words : FA} (O_both_words : FnOk P w K mg base CX0 k Z.f_both_words Z.fd_both_words [("pair" : Str)] (spA K 1 g_both_words)) {g_ways_to : FA} (O_ways_to : FnOk P w K mg base CX0 k Z.f_ways_to Z.fd_ways_to [("word" : Str), ("ahead" : Str), ("many" : Str)] (spA K 3 g_ways_to)) : ∀ (cdv : Value) (A : Around) (outer : List Env) (s : Shared) (H : Hp) (E : XK), Room k (A.deeper (envOfC "cores_many" (defScope s_cores_many) s.heap.objs.size Z.f_cores_many cdv)) → ∃ t, PPSs (cxOf CX0 P w K mg base NN_cores_many "cores_many" (defScope s_cores_many) Z.f_cores_many cdv A outer s H E).nox (defBody s_cores_many) t (T_cores_many g_meetings g_both_words g_ways_to) :=
  fun cdv A outer s H E hr => ⟨_, (ppss_cons (pps_set (i := 2) sc_cores_many.nd (ppc_callA O_meetings hr (by rfl) Z.m_meetings Z.F_meetings.kp Z.b_meetings (ppa_cons (ppe_var 0) (ppa_cons (ppe_var 1) ppa_nil))))
    (ppss_cons (pps_set (i := 3) sc_cores_many.nd (ppc_val (ppe_ifExp (ppt_cmp cm_gt (ppe_lenO 2 (by rfl) Z.z_len) ppe_int (nomark _)) (ppe_lst (ppa_cons ppe_int (ppa_cons ppe_int ppa_nil))) (ppe_lst (ppa_cons ppe_int ppa_nil)))))
    (ppss_cons (pps_for PassesOwn.never rfl (ppi_z2 (by rfl) Z.z_zip (ppa_cons (ppe_var 2) (ppa_cons (ppe_slice (ppe_var 2) (ppo_some ppe_int) ppo_none) ppa_nil))) (ptg_tup (n := 2) rfl (ptgs_cons (ptg_name (i := 4) sc_cores_many.nd) (ptgs_cons (ptg_name (i := 5) sc_cores_many.nd) ptgs_nil)))
    (ppss_one (pps_set (i := 3) sc_cores_many.nd (ppc_val (ppe_lcL (own := [("word", 6)]) rfl sc_cores_many.nd (ppi_seq (ppe_frz (ppc_callA O_both_words hr (by rfl) Z.m_both_words Z.F_both_words.kp Z.b_both_words (ppa_cons (ppe_var 5) ppa_nil)))) (blkOk_by (N := NN_cores_many) (sc := defScope s_cores_many) (by decide +kernel)) (fun _ _ _ _ _ => ((ptg_name (i := 6) sc_cores_many.nd)).lift) (fun _ _ _ _ _ => (ppts_nil).lift) (fun _ _ _ _ _ => ((ppe_frz (ppc_callA O_ways_to hr (by rfl) Z.m_ways_to Z.F_ways_to.kp Z.b_ways_to (ppa_cons (ppe_var 6) (ppa_cons (ppe_frz (ppc_callA O_both_words hr (by rfl) Z.m_both_words Z.F_both_words.kp Z.b_both_words (ppa_cons (ppe_var 4) ppa_nil))) (ppa_cons (ppe_var 3) ppa_nil)))))).lift))))))
    (ppss_one (pps_ret (ppc_val (ppe_callB (cr_sumA rfl) cp_sumA (by rfl) Z.z_sum (by decide +kernel) (ppa_cons (ppe_var 3) ppa_nil))))))))⟩
set_option maxHeartbeats 4000000 in
theorem bd__law_cell_at {k : Nat} : ∀ (cdv : Value) (A : Around) (outer : List Env) (s : Shared) (H : Hp) (E : XK), Room k (A.deeper (envOfC "_law_cell_at" (defScope s__law_cell_at) s.heap.objs.size Z.f__law_cell_at cdv)) → ∃ t, PPSs (cxOf CX0 P w K mg base NN__law_cell_at "_law_cell_at" (defScope s__law_cell_at) Z.f__law_cell_at cdv A outer s H E).nox (defBody s__law_cell_at) t (T__law_cell_at) :=
  fun cdv A outer s H E hr => ⟨_, (ppss_cons (pps_if (ppt_cmp cm_lt (ppe_var 1) (ppe_lenO 0 (by rfl) Z.z_len) (nomark _))
    (ppss_one (pps_ret (ppc_val (ppe_ixO 0 (ppe_var 1)))))
    ppss_nil)
    (ppss_one (pps_ret (ppc_val ppe_int))))⟩
set_option maxHeartbeats 4000000 in
theorem bd__law_box {k : Nat} {g__law_cell_at : FA} (O__law_cell_at : FnOk P w K mg base CX0 k Z.f__law_cell_at Z.fd__law_cell_at [("_law_script" : Str), ("_law_k" : Str)] (spA K 2 g__law_cell_at)) : ∀ (cdv : Value) (A : Around) (outer : List Env) (s : Shared) (H : Hp) (E : XK), Room k (A.deeper (envOfC "_law_box" (defScope s__law_box) s.heap.objs.size Z.f__law_box cdv)) → ∃ t, PPSs (cxOf CX0 P w K mg base NN__law_box "_law_box" (defScope s__law_box) Z.f__law_box cdv A outer s H E).nox (defBody s__law_box) t (T__law_box g__law_cell_at) :=
  fun cdv A outer s H E hr => ⟨_, (ppss_cons (pps_set (i := 2) sc__law_box.nd (ppc_callA O__law_cell_at hr (by rfl) Z.m__law_cell_at Z.F__law_cell_at.kp Z.b__law_cell_at (ppa_cons (ppe_var 0) (ppa_cons (ppe_var 1) ppa_nil))))
    (ppss_one (pps_ret (ppc_lst (ppa_cons (ppe_mul (ppe_callB call_abs cp_abs (by rfl) Z.z_abs (by decide +kernel) (ppa_cons (ppe_var 2) ppa_nil)) (ppe_callTy call_int1 cp_int1 (by rfl) Z.z_int (by decide +kernel) (ppa_cons (ppe_cmp cm_ge (ppe_callB call_abs cp_abs (by rfl) Z.z_abs (by decide +kernel) (ppa_cons (ppe_var 2) ppa_nil)) (ppe_powc 1000000000000000000) (nomark _)) ppa_nil))) (ppa_cons (ppe_add (ppe_add (ppe_mod (ppe_var 2) ppe_int) (ppe_mul ppe_int (ppe_var 1))) ppe_int) (ppa_cons ppe_int ppa_nil)))))))⟩
set_option maxHeartbeats 4000000 in
theorem bd__law_take {k : Nat} {g__law_take : FB} (O__law_take : FnOk P w K mg base CX0 k Z.f__law_take Z.fd__law_take [("_law_box_here" : Str), ("_law_size" : Str)] (spB K 2 g__law_take)) : ∀ (cdv : Value) (A : Around) (outer : List Env) (s : Shared) (H : Hp) (E : XK), Room k (A.deeper (envOfC "_law_take" (defScope s__law_take) s.heap.objs.size Z.f__law_take cdv)) → ∃ t, PPSs (cxOf CX0 P w K mg base NN__law_take "_law_take" (defScope s__law_take) Z.f__law_take cdv A outer s H E).nox (defBody s__law_take) t (T__law_take g__law_take) :=
  fun cdv A outer s H E hr => ⟨_, (ppss_cons (pps_if (ppt_cmp cm_gt (ppe_ixO 0 ppe_int) ppe_int (nomark _))
    (ppss_cons (pps_set (i := 2) sc__law_take.nd (ppc_val (ppe_mod (ppe_ixO 0 ppe_int) (ppe_var 1))))
    (ppss_cons (pps_store 0 ppe_int (ppe_div (ppe_ixO 0 ppe_int) (ppe_var 1)))
    (ppss_one (pps_ret (ppc_move 2)))))
    ppss_nil)
    (ppss_cons (pps_if (ppt_cmp cm_gt (ppe_var 1) (ppe_powc 10000000) (nomark _))
    (ppss_one (pps_ret (ppc_val (ppe_mod (ppe_add (ppe_frz (ppc_callB 0 O__law_take hr (by rfl) Z.m__law_take Z.F__law_take.kp Z.b__law_take (ppa_cons (ppe_powc 10000000) ppa_nil))) (ppe_mul (ppe_powc 10000000) (ppe_frz (ppc_callB 0 O__law_take hr (by rfl) Z.m__law_take Z.F__law_take.kp Z.b__law_take (ppa_cons (ppe_add (ppe_div (ppe_sub (ppe_var 1) ppe_int) (ppe_powc 10000000)) ppe_int) ppa_nil))))) (ppe_var 1)))))
    ppss_nil)
    (ppss_cons (pps_store 0 ppe_int (ppe_add (ppe_ixO 0 ppe_int) ppe_int))
    (ppss_cons (pps_set (i := 3) sc__law_take.nd (ppc_val (ppe_mod (ppe_mul (ppe_add (ppe_ixO 0 ppe_int) (ppe_mul ppe_int (ppe_ixO 0 ppe_int))) (ppe_add ppe_int (ppe_ixO 0 ppe_int))) ppe_int)))
    (ppss_cons (pps_set (i := 4) sc__law_take.nd (ppc_val (ppe_mod (ppe_mul (ppe_add (ppe_add (ppe_var 3) (ppe_ixO 0 ppe_int)) (ppe_div (ppe_ixO 0 ppe_int) ppe_int)) (ppe_add (ppe_mod (ppe_var 3) ppe_int) ppe_int)) ppe_int)))
    (ppss_one (pps_ret (ppc_val (ppe_mod (ppe_div (ppe_mod (ppe_add (ppe_mul (ppe_var 4) ppe_int) (ppe_var 3)) ppe_int) ppe_int) (ppe_var 1))))))))))⟩
set_option maxHeartbeats 4000000 in
theorem bd__law_same {k : Nat} {g__law_same : FA} (O__law_same : FnOk P w K mg base CX0 k Z.f__law_same Z.fd__law_same [("_law_told" : Str), ("_law_due" : Str)] (spA K 2 g__law_same)) : ∀ (cdv : Value) (A : Around) (outer : List Env) (s : Shared) (H : Hp) (E : XK), Room k (A.deeper (envOfC "_law_same" (defScope s__law_same) s.heap.objs.size Z.f__law_same cdv)) → ∃ t, PPSs (cxOf CX0 P w K mg base NN__law_same "_law_same" (defScope s__law_same) Z.f__law_same cdv A outer s H E).nox (defBody s__law_same) t (T__law_same g__law_same) :=
  fun cdv A outer s H E hr => ⟨_, (ppss_cons (pps_if (ppt_val (ppe_isi2 isT_list isT_tuple (by rfl) Z.z_isinstance (by rfl) Z.z_list (by rfl) Z.z_tuple (ppe_var 1)))
    (ppss_cons (pps_if (PPW.ppt (ppw_or (ppt_cmp (cm_ne (hu64 hr)) (ppe_isi isT_list (by rfl) Z.z_isinstance (by rfl) Z.z_list (ppe_var 0)) (ppe_isi isT_list (by rfl) Z.z_isinstance (by rfl) Z.z_list (ppe_var 1)) (nomark _)) (ppw_or1 (ppt_cmp (cm_ne (hu64 hr)) (ppe_isi isT_tuple (by rfl) Z.z_isinstance (by rfl) Z.z_tuple (ppe_var 0)) (ppe_isi isT_tuple (by rfl) Z.z_isinstance (by rfl) Z.z_tuple (ppe_var 1)) (nomark _)))))
    (ppss_one (pps_ret (ppc_val ppe_bl)))
    ppss_nil)
    (ppss_one (pps_ret (ppc_val (ppe_and (ppe_cmp (cm_eq (hu64 hr)) (ppe_lenO 0 (by rfl) Z.z_len) (ppe_lenO 1 (by rfl) Z.z_len) (nomark _)) (ppe_one (ppe_callB (cr_all rfl) cp_all (by rfl) Z.z_all (by decide +kernel) (ppa_cons (ppe_lcL (own := [("_law_one", 2), ("_law_two", 3)]) rfl sc__law_same.nd (ppi_z2 (by rfl) Z.z_zip (ppa_cons (ppe_var 0) (ppa_cons (ppe_var 1) ppa_nil))) (blkOk_by (N := NN__law_same) (sc := defScope s__law_same) (by decide +kernel)) (fun _ _ _ _ _ => ((ptg_tup (n := 2) rfl (ptgs_cons (ptg_name (i := 2) sc__law_same.nd) (ptgs_cons (ptg_name (i := 3) sc__law_same.nd) ptgs_nil)))).lift) (fun _ _ _ _ _ => (ppts_nil).lift) (fun _ _ _ _ _ => ((ppe_frz (ppc_callA O__law_same hr (by rfl) Z.m__law_same Z.F__law_same.kp Z.b__law_same (ppa_cons (ppe_var 2) (ppa_cons (ppe_var 3) ppa_nil))))).lift)) ppa_nil))))))))
    ppss_nil)
    (ppss_cons (pps_if (PPW.ppt (ppw_or (ppt_cmp cm_isN (ppe_var 1) ppe_non (nomark _)) (ppw_or1 (ppt_val (ppe_isi2 isT_bool isT_str (by rfl) Z.z_isinstance (by rfl) Z.z_bool (by rfl) Z.z_str (ppe_var 1))))))
    (ppss_one (pps_ret (ppc_val (ppe_and (ppe_cmp (cm_eq (hu64 hr)) (ppe_var 0) (ppe_var 1) (nomark _)) (ppe_and (ppe_cmp (cm_eq (hu64 hr)) (ppe_isi isT_bool (by rfl) Z.z_isinstance (by rfl) Z.z_bool (ppe_var 0)) (ppe_isi isT_bool (by rfl) Z.z_isinstance (by rfl) Z.z_bool (ppe_var 1)) (nomark _)) (ppe_one (ppe_cmp (cm_eq (hu64 hr)) (ppe_cmp cm_isN (ppe_var 0) ppe_non (nomark _)) (ppe_cmp cm_isN (ppe_var 1) ppe_non (nomark _)) (nomark _))))))))
    ppss_nil)
    (ppss_one (pps_ret (ppc_val (ppe_and (ppe_isi isT_int (by rfl) Z.z_isinstance (by rfl) Z.z_int (ppe_var 0)) (ppe_and (ppe_not (ppe_isi isT_bool (by rfl) Z.z_isinstance (by rfl) Z.z_bool (ppe_var 0))) (ppe_one (ppe_cmp (cm_eq (hu64 hr)) (ppe_var 0) (ppe_var 1) (nomark _))))))))))⟩
set_option maxHeartbeats 4000000 in
theorem bd__law_slope {k : Nat} {g__law_take : FB} (O__law_take : FnOk P w K mg base CX0 k Z.f__law_take Z.fd__law_take [("_law_box_here" : Str), ("_law_size" : Str)] (spB K 2 g__law_take)) : ∀ (cdv : Value) (A : Around) (outer : List Env) (s : Shared) (H : Hp) (E : XK), Room k (A.deeper (envOfC "_law_slope" (defScope s__law_slope) s.heap.objs.size Z.f__law_slope cdv)) → ∃ t, PPSs (cxOf CX0 P w K mg base NN__law_slope "_law_slope" (defScope s__law_slope) Z.f__law_slope cdv A outer s H E).nox (defBody s__law_slope) t (T__law_slope g__law_take) :=
  fun cdv A outer s H E hr => ⟨_, (ppss_one (pps_ret (ppc_callB 0 O__law_take hr (by rfl) Z.m__law_take Z.F__law_take.kp Z.b__law_take (ppa_cons (ppe_ix (ppe_lst (ppa_cons ppe_int (ppa_cons ppe_int (ppa_cons ppe_int (ppa_cons (ppe_powc 1000000000) ppa_nil))))) (ppe_frz (ppc_callB 0 O__law_take hr (by rfl) Z.m__law_take Z.F__law_take.kp Z.b__law_take (ppa_cons ppe_int ppa_nil)))) ppa_nil))))⟩
set_option maxHeartbeats 4000000 in
theorem bd__law_books {k : Nat} {g__law_take : FB} (O__law_take : FnOk P w K mg base CX0 k Z.f__law_take Z.fd__law_take [("_law_box_here" : Str), ("_law_size" : Str)] (spB K 2 g__law_take)) {g__law_slope : FB} (O__law_slope : FnOk P w K mg base CX0 k Z.f__law_slope Z.fd__law_slope [("_law_box_here" : Str)] (spB K 1 g__law_slope)) : ∀ (cdv : Value) (A : Around) (outer : List Env) (s : Shared) (H : Hp) (E : XK), Room k (A.deeper (envOfC "_law_books" (defScope s__law_books) s.heap.objs.size Z.f__law_books cdv)) → ∃ t, PPSs (cxOf CX0 P w K mg base NN__law_books "_law_books" (defScope s__law_books) Z.f__law_books cdv A outer s H E).nox (defBody s__law_books) t (T__law_books g__law_take g__law_slope) :=
  fun cdv A outer s H E hr => ⟨_, (ppss_cons (pps_parC3 (i := 2) (j := 3) (l := 4) rfl sc__law_books.nd (ppcs_cons (ppc_lst ppa_nil) (ppcs_cons (ppc_lst ppa_nil) (ppcs_cons (ppc_callB 0 O__law_take hr (by rfl) Z.m__law_take Z.F__law_take.kp Z.b__law_take (ppa_cons ppe_int ppa_nil)) ppcs_nil))))
    (ppss_cons (pps_if (ppt_cmp (cm_eq (hu64 hr)) (ppe_var 4) ppe_int (nomark _))
    (ppss_cons (pps_set (i := 5) sc__law_books.nd (ppc_val (ppe_add ppe_int (ppe_frz (ppc_callB 0 O__law_take hr (by rfl) Z.m__law_take Z.F__law_take.kp Z.b__law_take (ppa_cons ppe_int ppa_nil))))))
    (ppss_cons (pps_for PassesOwn.never rfl (ppi_range1 (by rfl) Z.z_range (ppa_cons (ppe_frz (ppc_callB 0 O__law_take hr (by rfl) Z.m__law_take Z.F__law_take.kp Z.b__law_take (ppa_cons (ppe_add (ppe_mul ppe_int (ppe_var 1)) ppe_int) ppa_nil))) ppa_nil)) (ptg_name (i := 6) sc__law_books.nd)
    (ppss_cons (pps_set (i := 7) sc__law_books.nd (ppc_val (ppe_ix (ppe_lst (ppa_cons (ppe_adr 2) (ppa_cons (ppe_adr 3) ppa_nil))) (ppe_mod (ppe_add (ppe_var 6) (ppe_mul (ppe_frz (ppc_callB 0 O__law_take hr (by rfl) Z.m__law_take Z.F__law_take.kp Z.b__law_take (ppa_cons ppe_int ppa_nil))) (ppe_frz (ppc_callB 0 O__law_take hr (by rfl) Z.m__law_take Z.F__law_take.kp Z.b__law_take (ppa_cons ppe_int ppa_nil))))) ppe_int))))
    (ppss_cons (pps_appendA 7 [2, 3] (ppe_var 5))
    (ppss_one (pps_set (i := 5) sc__law_books.nd (ppc_val (ppe_callB (call_max2 rfl) cp_max2 (by rfl) Z.z_max (by decide +kernel) (ppa_cons ppe_int (ppa_cons (ppe_sub (ppe_sub (ppe_var 5) ppe_int) (ppe_frz (ppc_callB 0 O__law_take hr (by rfl) Z.m__law_take Z.F__law_take.kp Z.b__law_take (ppa_cons ppe_int ppa_nil)))) ppa_nil)))))))))
    (ppss_one (pps_ret (ppc_val (ppe_tup (ppa_cons (ppe_slice (ppe_var 2) ppo_none (ppo_some (ppe_var 1))) (ppa_cons (ppe_slice (ppe_var 3) ppo_none (ppo_some (ppe_var 1))) ppa_nil))))))))
    ppss_nil)
    (ppss_cons (pps_for PassesOwn.never rfl (ppi_seq (ppe_tup (ppa_cons (ppe_adr 2) (ppa_cons (ppe_adr 3) ppa_nil)))) (ptg_name (i := 7) sc__law_books.nd)
    (ppss_one (pps_for PassesOwn.never rfl (ppi_range1 (by rfl) Z.z_range (ppa_cons (ppe_frz (ppc_callB 0 O__law_take hr (by rfl) Z.m__law_take Z.F__law_take.kp Z.b__law_take (ppa_cons (ppe_add (ppe_var 1) ppe_int) ppa_nil))) ppa_nil)) (ptg_name (i := 6) sc__law_books.nd)
    (ppss_one (pps_appendA 7 [2, 3] (ppe_ifExp (ppt_cmp cm_lt (ppe_var 4) ppe_int (nomark _)) (ppe_frz (ppc_callB 0 O__law_slope hr (by rfl) Z.m__law_slope Z.F__law_slope.kp Z.b__law_slope ppa_nil)) (ppe_frz (ppc_callB 0 O__law_take hr (by rfl) Z.m__law_take Z.F__law_take.kp Z.b__law_take (ppa_cons ppe_int ppa_nil)))))))))
    (ppss_one (pps_ret (ppc_val (ppe_tup (ppa_cons (ppe_var 2) (ppa_cons (ppe_var 3) ppa_nil)))))))))⟩
set_option maxHeartbeats 4000000 in
theorem bd__law_right {k : Nat} {g_cores_many : FA} (O_cores_many : FnOk P w K mg base CX0 k Z.f_cores_many Z.fd_cores_many [("cuts" : Str), ("fills" : Str)] (spA K 2 g_cores_many)) {g__law_take : FB} (O__law_take : FnOk P w K mg base CX0 k Z.f__law_take Z.fd__law_take [("_law_box_here" : Str), ("_law_size" : Str)] (spB K 2 g__law_take)) {g__law_same : FA} (O__law_same : FnOk P w K mg base CX0 k Z.f__law_same Z.fd__law_same [("_law_told" : Str), ("_law_due" : Str)] (spA K 2 g__law_same)) {g__law_books : FB} (O__law_books : FnOk P w K mg base CX0 k Z.f__law_books Z.fd__law_books [("_law_box_here" : Str), ("_law_size" : Str)] (spB K 2 g__law_books)) : ∀ (cdv : Value) (A : Around) (outer : List Env) (s : Shared) (H : Hp) (E : XK), Room k (A.deeper (envOfC "_law_right" (defScope s__law_right) s.heap.objs.size Z.f__law_right cdv)) → ∃ t, PPSs (cxOf CX0 P w K mg base NN__law_right "_law_right" (defScope s__law_right) Z.f__law_right cdv A outer s H E).nox (defBody s__law_right) t (T__law_right g_cores_many g__law_take g__law_same g__law_books) :=
  fun cdv A outer s H E hr => ⟨_, (ppss_cons (pps_asg (ppe_tup (ppa_cons (ppe_add (ppe_powc 1000000) (ppe_frz (ppc_callB 0 O__law_take hr (by rfl) Z.m__law_take Z.F__law_take.kp Z.b__law_take (ppa_cons (ppe_powc 1000000) ppa_nil)))) (ppa_cons (ppe_lcL (own := [("_law_turn", 1)]) rfl sc__law_right.nd (ppi_range1 (by rfl) Z.z_range (ppa_cons ppe_int ppa_nil)) (blkOk_by (N := NN__law_right) (sc := defScope s__law_right) (by decide +kernel)) (fun _ _ _ _ _ => ((ptg_name (i := 1) sc__law_right.nd)).lift) (fun _ _ _ _ _ => (ppts_nil).lift) (fun _ _ _ _ _ => ((ppe_add ppe_int (ppe_frz (ppc_callB 0 O__law_take hr (by rfl) Z.m__law_take Z.F__law_take.kp Z.b__law_take (ppa_cons ppe_int ppa_nil))))).lift)) ppa_nil))) (ptg_tup (n := 2) rfl (ptgs_cons (ptg_name (i := 2) sc__law_right.nd) (ptgs_cons (ptg_name (i := 3) sc__law_right.nd) ptgs_nil))))
    (ppss_cons (pps_setLcV (i := 5) (own := [("_law_k", 4)]) rfl sc__law_right.nd (ppi_range1 (by rfl) Z.z_range (ppa_cons ppe_int ppa_nil)) (blkOk_by (N := NN__law_right) (sc := defScope s__law_right) (by decide +kernel)) (fun _ _ _ _ _ => ((ptg_name (i := 4) sc__law_right.nd)).lift) (fun _ _ _ _ _ => (ppts_nil).lift) (fun _ _ _ _ _ => ((ppe_sub (ppe_var 2) (ppe_callB (cr_sumA rfl) cp_sumA (by rfl) Z.z_sum (by decide +kernel) (ppa_cons (ppe_slice (ppe_var 3) ppo_none (ppo_some (ppe_add (ppe_var 4) ppe_int))) ppa_nil)))).lift))
    (ppss_cons (pps_set (i := 6) sc__law_right.nd (ppc_lst (ppa_cons ppe_int (ppa_cons ppe_int (ppa_cons ppe_int ppa_nil)))))
    (ppss_cons (pps_for PassesOwn.never rfl (ppi_range1 (by rfl) Z.z_range (ppa_cons ppe_int ppa_nil)) (ptg_name (i := 7) sc__law_right.nd)
    (ppss_one (pps_append 6 (ppe_add (ppe_ixO 6 (ppe_neg ppe_int)) (ppe_ixO 6 (ppe_neg ppe_int))))))
    (ppss_cons (pps_for PassesOwn.never rfl (ppi_seq (ppe_tup (ppa_cons ppe_int (ppa_cons ppe_int (ppa_cons ppe_int (ppa_cons (ppe_frz (ppc_callB 0 O__law_take hr (by rfl) Z.m__law_take Z.F__law_take.kp Z.b__law_take (ppa_cons ppe_int ppa_nil))) (ppa_cons (ppe_frz (ppc_callB 0 O__law_take hr (by rfl) Z.m__law_take Z.F__law_take.kp Z.b__law_take (ppa_cons ppe_int ppa_nil))) ppa_nil))))))) (ptg_name (i := 7) sc__law_right.nd)
    (ppss_cons (pps_par (i := 8) (j := 9) rfl sc__law_right.nd (ppa_cons (ppe_sl2a (ppe_slice (ppe_var 5) ppo_none (ppo_some (ppe_var 7)))) (ppa_cons (ppe_sl2b (ppe_slice (ppe_var 5) ppo_none (ppo_some (ppe_var 7)))) ppa_nil)))
    (ppss_one (pps_if (ppt_not (ppt_val (ppe_frz (ppc_callA O__law_same hr (by rfl) Z.m__law_same Z.F__law_same.kp Z.b__law_same (ppa_cons (ppe_lst (ppa_cons (ppe_frz (ppc_callA O_cores_many hr (by rfl) Z.m_cores_many Z.F_cores_many.kp Z.b_cores_many (ppa_cons (ppe_var 8) (ppa_cons (ppe_var 9) ppa_nil)))) (ppa_cons (ppe_frz (ppc_callA O_cores_many hr (by rfl) Z.m_cores_many Z.F_cores_many.kp Z.b_cores_many (ppa_cons (ppe_var 9) (ppa_cons (ppe_var 8) ppa_nil)))) ppa_nil))) (ppa_cons (ppe_rep (ppe_lst (ppa_cons (ppe_ixO 6 (ppe_var 7)) ppa_nil)) ppe_int) ppa_nil))))))
    (ppss_one (pps_ret (ppc_val ppe_bl)))
    ppss_nil))))
    (ppss_cons (pps_set (i := 10) sc__law_right.nd (ppc_callB 0 O__law_take hr (by rfl) Z.m__law_take Z.F__law_take.kp Z.b__law_take (ppa_cons ppe_int ppa_nil)))
    (ppss_cons (pps_par (i := 8) (j := 9) rfl sc__law_right.nd (ppa_cons (ppe_slice (ppe_var 5) ppo_none (ppo_some (ppe_var 10))) (ppa_cons (ppe_slice (ppe_var 5) (ppo_some (ppe_var 10)) (ppo_some (ppe_add (ppe_add (ppe_var 10) ppe_int) (ppe_frz (ppc_callB 0 O__law_take hr (by rfl) Z.m__law_take Z.F__law_take.kp Z.b__law_take (ppa_cons ppe_int ppa_nil)))))) ppa_nil)))
    (ppss_cons (pps_if (PPW.ppt (ppw_or (ppt_cmp (cm_ne (hu64 hr)) (ppe_frz (ppc_callA O_cores_many hr (by rfl) Z.m_cores_many Z.F_cores_many.kp Z.b_cores_many (ppa_cons (ppe_var 8) (ppa_cons (ppe_var 9) ppa_nil)))) (ppe_add ppe_int (ppe_var 10)) (nomark _)) (ppw_or1 (ppt_cmp (cm_ne (hu64 hr)) (ppe_frz (ppc_callA O_cores_many hr (by rfl) Z.m_cores_many Z.F_cores_many.kp Z.b_cores_many (ppa_cons (ppe_var 9) (ppa_cons (ppe_var 8) ppa_nil)))) (ppe_add ppe_int (ppe_var 10)) (nomark _)))))
    (ppss_one (pps_ret (ppc_val ppe_bl)))
    ppss_nil)
    (ppss_cons (pps_asg (ppe_lcL (own := [("_law_book", 11)]) rfl sc__law_right.nd (ppi_seq (ppe_frz (ppc_callB 0 O__law_books hr (by rfl) Z.m__law_books Z.F__law_books.kp Z.b__law_books (ppa_cons ppe_int ppa_nil)))) (blkOk_by (N := NN__law_right) (sc := defScope s__law_right) (by decide +kernel)) (fun _ _ _ _ _ => ((ptg_name (i := 11) sc__law_right.nd)).lift) (fun _ _ _ _ _ => (ppts_nil).lift) (fun _ _ _ _ _ => ((ppe_lcL (own := [("_law_slope_here", 12)]) rfl sc__law_right.nd (ppi_seq (ppe_var 11)) (by refine blkOk_by ?_; first | rfl | with_unfolding_all rfl) (fun _ _ _ _ _ => ((ptg_name (i := 12) sc__law_right.nd)).lift) (fun _ _ _ _ _ => (ppts_nil).lift) (fun _ _ _ _ _ => ((ppe_add ppe_int (ppe_mod (ppe_var 12) (ppe_powc 10000000)))).lift))).lift)) (ptg_tup (n := 2) rfl (ptgs_cons (ptg_name (i := 8) sc__law_right.nd) (ptgs_cons (ptg_name (i := 9) sc__law_right.nd) ptgs_nil))))
    (ppss_cons (pps_asg (ppe_tup (ppa_cons (ppe_frz (ppc_callA O_cores_many hr (by rfl) Z.m_cores_many Z.F_cores_many.kp Z.b_cores_many (ppa_cons (ppe_var 8) (ppa_cons (ppe_var 9) ppa_nil)))) (ppa_cons (ppe_add ppe_int (ppe_frz (ppc_callB 0 O__law_take hr (by rfl) Z.m__law_take Z.F__law_take.kp Z.b__law_take (ppa_cons ppe_int ppa_nil)))) ppa_nil))) (ptg_tup (n := 2) rfl (ptgs_cons (ptg_name (i := 7) sc__law_right.nd) (ptgs_cons (ptg_name (i := 13) sc__law_right.nd) ptgs_nil))))
    (ppss_cons (pps_if (ppt_cmp (cm_ne (hu64 hr)) (ppe_frz (ppc_callA O_cores_many hr (by rfl) Z.m_cores_many Z.F_cores_many.kp Z.b_cores_many (ppa_cons (ppe_var 9) (ppa_cons (ppe_var 8) ppa_nil)))) (ppe_var 7) (nomark _))
    (ppss_one (pps_ret (ppc_val ppe_bl)))
    ppss_nil)
    (ppss_cons (pps_if (ppt_cmp (cm_ne (hu64 hr)) (ppe_frz (ppc_callA O_cores_many hr (by rfl) Z.m_cores_many Z.F_cores_many.kp Z.b_cores_many (ppa_cons (ppe_lcL (own := [("_law_one", 14)]) rfl sc__law_right.nd (ppi_seq (ppe_var 8)) (blkOk_by (N := NN__law_right) (sc := defScope s__law_right) (by decide +kernel)) (fun _ _ _ _ _ => ((ptg_name (i := 14) sc__law_right.nd)).lift) (fun _ _ _ _ _ => (ppts_nil).lift) (fun _ _ _ _ _ => ((ppe_mul (ppe_var 13) (ppe_var 14))).lift)) (ppa_cons (ppe_lcL (own := [("_law_one", 14)]) rfl sc__law_right.nd (ppi_seq (ppe_var 9)) (blkOk_by (N := NN__law_right) (sc := defScope s__law_right) (by decide +kernel)) (fun _ _ _ _ _ => ((ptg_name (i := 14) sc__law_right.nd)).lift) (fun _ _ _ _ _ => (ppts_nil).lift) (fun _ _ _ _ _ => ((ppe_mul (ppe_var 13) (ppe_var 14))).lift)) ppa_nil)))) (ppe_var 7) (nomark _))
    (ppss_one (pps_ret (ppc_val ppe_bl)))
    ppss_nil)
    (ppss_cons (pps_if (ppt_cmp (cm_ne (hu64 hr)) (ppe_var 8) (ppe_lst ppa_nil) (nomark _))
    (ppss_cons (pps_set (i := 15) sc__law_right.nd (ppc_val (ppe_add ppe_int (ppe_frz (ppc_callB 0 O__law_take hr (by rfl) Z.m__law_take Z.F__law_take.kp Z.b__law_take (ppa_cons (ppe_lenO 8 (by rfl) Z.z_len) ppa_nil))))))
    (ppss_cons (pps_set (i := 16) sc__law_right.nd (ppc_val (ppe_add (ppe_add (ppe_slice (ppe_var 8) ppo_none (ppo_some (ppe_var 15))) (ppe_lst (ppa_cons (ppe_add (ppe_callB (cr_minA rfl (hu64 hr)) cp_best (by rfl) Z.z_min (by decide +kernel) (ppa_cons (ppe_slice (ppe_var 8) ppo_none (ppo_some (ppe_var 15))) ppa_nil)) (ppe_frz (ppc_callB 0 O__law_take hr (by rfl) Z.m__law_take Z.F__law_take.kp Z.b__law_take (ppa_cons ppe_int ppa_nil)))) ppa_nil))) (ppe_slice (ppe_var 8) (ppo_some (ppe_var 15)) ppo_none))))
    (ppss_one (pps_if (ppt_cmp (cm_ne (hu64 hr)) (ppe_frz (ppc_callA O_cores_many hr (by rfl) Z.m_cores_many Z.F_cores_many.kp Z.b_cores_many (ppa_cons (ppe_var 16) (ppa_cons (ppe_var 9) ppa_nil)))) (ppe_var 7) (nomark _))
    (ppss_one (pps_ret (ppc_val ppe_bl)))
    ppss_nil))))
    ppss_nil)
    (ppss_cons (pps_set (i := 17) sc__law_right.nd (ppc_callB 0 O__law_take hr (by rfl) Z.m__law_take Z.F__law_take.kp Z.b__law_take (ppa_cons ppe_int ppa_nil)))
    (ppss_cons (pps_set (i := 18) sc__law_right.nd (ppc_callA O_cores_many hr (by rfl) Z.m_cores_many Z.F_cores_many.kp Z.b_cores_many (ppa_cons (ppe_add (ppe_var 8) (ppe_lst (ppa_cons (ppe_var 17) ppa_nil))) (ppa_cons (ppe_add (ppe_var 9) (ppe_lst (ppa_cons (ppe_var 17) ppa_nil))) ppa_nil))))
    (ppss_one (pps_ret (ppc_val (ppe_cmp (cm_eq (hu64 hr)) (ppe_var 18) (ppe_add (ppe_frz (ppc_callA O_cores_many hr (by rfl) Z.m_cores_many Z.F_cores_many.kp Z.b_cores_many (ppa_cons (ppe_add (ppe_var 8) (ppe_lst (ppa_cons (ppe_var 17) ppa_nil))) (ppa_cons (ppe_var 9) ppa_nil)))) (ppe_frz (ppc_callA O_cores_many hr (by rfl) Z.m_cores_many Z.F_cores_many.kp Z.b_cores_many (ppa_cons (ppe_var 8) (ppa_cons (ppe_add (ppe_var 9) (ppe_lst (ppa_cons (ppe_var 17) ppa_nil))) ppa_nil))))) (nomark _))))))))))))))))))))⟩
set_option maxHeartbeats 4000000 in
theorem bd_law {k : Nat} {g__law_box : FA} (O__law_box : FnOk P w K mg base CX0 k Z.f__law_box Z.fd__law_box [("_law_script" : Str), ("_law_k" : Str)] (spA K 2 g__law_box)) {g__law_right : FB} (O__law_right : FnOk P w K mg base CX0 k Z.f__law_right Z.fd__law_right [("_law_box_here" : Str)] (spB K 1 g__law_right)) : ∀ (cdv : Value) (A : Around) (outer : List Env) (s : Shared) (H : Hp) (E : XK), Room k (A.deeper (envOfC "law" (defScope s_law) s.heap.objs.size Z.f_law cdv)) → ∃ t, PPSs (cxOf CX0 P w K mg base NN_law "law" (defScope s_law) Z.f_law cdv A outer s H E).nox (defBody s_law) t (T_law g__law_box g__law_right) :=
  fun cdv A outer s H E hr => ⟨_, (ppss_cons (pps_for PassesOwn.never rfl (ppi_range1 (by rfl) Z.z_range (ppa_cons (ppe_add ppe_int (ppe_callB (call_min2 rfl) cp_min2 (by rfl) Z.z_min (by decide +kernel) (ppa_cons ppe_int (ppa_cons (ppe_lenO 0 (by rfl) Z.z_len) ppa_nil)))) ppa_nil)) (ptg_name (i := 1) sc_law.nd)
    (ppss_cons (pps_set (i := 2) sc_law.nd (ppc_callA O__law_box hr (by rfl) Z.m__law_box Z.F__law_box.kp Z.b__law_box (ppa_cons (ppe_var 0) (ppa_cons (ppe_var 1) ppa_nil))))
    (ppss_one (pps_if (ppt_not (ppt_val (ppe_callB (cr_all rfl) cp_all (by rfl) Z.z_all (by decide +kernel) (ppa_cons (ppe_lcL (own := [("_law_turn", 3)]) rfl sc_law.nd (ppi_range1 (by rfl) Z.z_range (ppa_cons ppe_int ppa_nil)) (blkOk_by (N := NN_law) (sc := defScope s_law) (by decide +kernel)) (fun _ _ _ _ _ => ((ptg_name (i := 3) sc_law.nd)).lift) (fun _ _ _ _ _ => (ppts_nil).lift) (fun _ _ _ _ _ => ((ppe_frz (ppc_callB 2 O__law_right hr (by rfl) Z.m__law_right Z.F__law_right.kp Z.b__law_right ppa_nil))).lift)) ppa_nil))))
    (ppss_one (pps_ret (ppc_val ppe_bl)))
    ppss_nil))))
    (ppss_one (pps_ret (ppc_val ppe_bl))))⟩
end
section
variable {P : Program} {w : World} {K : PySem.W.Frag} {mg : Str → Option Value} {base : Heap} (Z : Tx K mg)
include Z
theorem ok_are_contrary : FnOk P w K mg base CX0 1 Z.f_are_contrary Z.fd_are_contrary ["one", "other"] (spA K 2 g_are_contrary) := okA Z.F_are_contrary sc_are_contrary (bd_are_contrary Z (k := 0) ) rd_are_contrary
theorem ok_first_gentle : FnOk P w K mg base CX0 1 Z.f_first_gentle Z.fd_first_gentle ["slopes", "slope"] (spA K 2 g_first_gentle) := okA Z.F_first_gentle sc_first_gentle (bd_first_gentle Z (k := 0) ) rd_first_gentle
theorem ok_meetings : FnOk P w K mg base CX0 2 Z.f_meetings Z.fd_meetings ["cuts", "fills"] (spA K 2 g_meetings) := okA Z.F_meetings sc_meetings (bd_meetings Z (k := 1) ((ok_first_gentle Z).mono (by decide))) rd_meetings
theorem ok_both_words : FnOk P w K mg base CX0 1 Z.f_both_words Z.fd_both_words ["pair"] (spA K 1 g_both_words) := okA Z.F_both_words sc_both_words (bd_both_words Z (k := 0) ) rd_both_words
theorem ok_ways_to : FnOk P w K mg base CX0 2 Z.f_ways_to Z.fd_ways_to ["word", "ahead", "many"] (spA K 3 g_ways_to) := okA Z.F_ways_to sc_ways_to (bd_ways_to Z (k := 1) ((ok_are_contrary Z).mono (by decide))) rd_ways_to
theorem ok_cores_many : FnOk P w K mg base CX0 3 Z.f_cores_many Z.fd_cores_many ["cuts", "fills"] (spA K 2 g_cores_many) := okA Z.F_cores_many sc_cores_many (bd_cores_many Z (k := 2) ((ok_meetings Z).mono (by decide)) ((ok_both_words Z).mono (by decide)) ((ok_ways_to Z).mono (by decide))) rd_cores_many
theorem ok__law_cell_at : FnOk P w K mg base CX0 1 Z.f__law_cell_at Z.fd__law_cell_at ["_law_script", "_law_k"] (spA K 2 g__law_cell_at) := okA Z.F__law_cell_at sc__law_cell_at (bd__law_cell_at Z (k := 0) ) rd__law_cell_at
theorem ok__law_box : FnOk P w K mg base CX0 2 Z.f__law_box Z.fd__law_box ["_law_script", "_law_k"] (spA K 2 g__law_box) := okA Z.F__law_box sc__law_box (bd__law_box Z (k := 1) ((ok__law_cell_at Z).mono (by decide))) rd__law_box
theorem ok__law_take_0 : FnOk P w K mg base CX0 1 Z.f__law_take Z.fd__law_take ["_law_box_here", "_law_size"] (spB K 2 g_take0) := okB Z.F__law_take sc__law_take (bd__law_take Z (k := 0) (fnNoneB Z.F__law_take)) rd_take0
theorem ok__law_take : FnOk P w K mg base CX0 2 Z.f__law_take Z.fd__law_take ["_law_box_here", "_law_size"] (spB K 2 (g_take 100000000000000)) := okB Z.F__law_take sc__law_take (bd__law_take Z (k := 1) ((ok__law_take_0 Z).mono (by decide))) rd_take
theorem ok__law_same_0 : FnOk P w K mg base CX0 1 Z.f__law_same Z.fd__law_same ["_law_told", "_law_due"] (spA K 2 (gS 1)) := okA Z.F__law_same sc__law_same (bd__law_same Z (k := 0) (fnNoneA Z.F__law_same)) (rd_same 0)
theorem ok__law_same_1 : FnOk P w K mg base CX0 2 Z.f__law_same Z.fd__law_same ["_law_told", "_law_due"] (spA K 2 (gS 2)) := okA Z.F__law_same sc__law_same (bd__law_same Z (k := 1) ((ok__law_same_0 Z).mono (by decide))) (rd_same 1)
theorem ok__law_same_2 : FnOk P w K mg base CX0 3 Z.f__law_same Z.fd__law_same ["_law_told", "_law_due"] (spA K 2 (gS 3)) := okA Z.F__law_same sc__law_same (bd__law_same Z (k := 2) ((ok__law_same_1 Z).mono (by decide))) (rd_same 2)
theorem ok__law_same : FnOk P w K mg base CX0 4 Z.f__law_same Z.fd__law_same ["_law_told", "_law_due"] (spA K 2 (gS 4)) := okA Z.F__law_same sc__law_same (bd__law_same Z (k := 3) ((ok__law_same_2 Z).mono (by decide))) (rd_same 3)
theorem ok__law_slope : FnOk P w K mg base CX0 3 Z.f__law_slope Z.fd__law_slope ["_law_box_here"] (spB K 1 g__law_slope) := okB Z.F__law_slope sc__law_slope (bd__law_slope Z (k := 2) ((ok__law_take Z).mono (by decide))) rd__law_slope
theorem ok__law_books : FnOk P w K mg base CX0 4 Z.f__law_books Z.fd__law_books ["_law_box_here", "_law_size"] (spB K 2 g__law_books) := okB Z.F__law_books sc__law_books (bd__law_books Z (k := 3) ((ok__law_take Z).mono (by decide)) ((ok__law_slope Z).mono (by decide))) rd__law_books
theorem ok__law_right : FnOk P w K mg base CX0 5 Z.f__law_right Z.fd__law_right ["_law_box_here"] (spB K 1 g__law_right) := okB Z.F__law_right sc__law_right (bd__law_right Z (k := 4) ((ok_cores_many Z).mono (by decide)) ((ok__law_take Z).mono (by decide)) ((ok__law_same Z).mono (by decide)) ((ok__law_books Z).mono (by decide))) rd__law_right
theorem ok_law : FnOk P w K mg base CX0 6 Z.f_law Z.fd_law ["_law_script"] (spA K 1 g_law) := okA Z.F_law sc_law (bd_law Z (k := 5) ((ok__law_box Z).mono (by decide)) ((ok__law_right Z).mono (by decide))) rd_law
end
set_option maxHeartbeats 4000000 in
theorem all_mk {l : PySem.W.OpenLaw} {w : World} {K : PySem.W.Frag} {h : Heap} {mg : Str → Option Value} {fa : Addr} (X : K.In h) (G : h.Ns mainGlobals mg) (hfa : mg "law" = some (.ref fa)) {f0 : Addr} {od0 an0 : Option Addr} {sl0 : Array (Option Value)} {oc0 kV0 dc0 pm0 cd0 ct0 : Value} {f1 : Addr} {od1 an1 : Option Addr} {sl1 : Array (Option Value)} {oc1 kV1 dc1 pm1 cd1 ct1 : Value} {f2 : Addr} {od2 an2 : Option Addr} {sl2 : Array (Option Value)} {oc2 kV2 dc2 pm2 cd2 ct2 : Value} {f3 : Addr} {od3 an3 : Option Addr} {sl3 : Array (Option Value)} {oc3 kV3 dc3 pm3 cd3 ct3 : Value} {f4 : Addr} {od4 an4 : Option Addr} {sl4 : Array (Option Value)} {oc4 kV4 dc4 pm4 cd4 ct4 : Value} {f5 : Addr} {od5 an5 : Option Addr} {sl5 : Array (Option Value)} {oc5 kV5 dc5 pm5 cd5 ct5 : Value} {f6 : Addr} {od6 an6 : Option Addr} {sl6 : Array (Option Value)} {oc6 kV6 dc6 pm6 cd6 ct6 : Value} {f7 : Addr} {od7 an7 : Option Addr} {sl7 : Array (Option Value)} {oc7 kV7 dc7 pm7 cd7 ct7 : Value} {f8 : Addr} {od8 an8 : Option Addr} {sl8 : Array (Option Value)} {oc8 kV8 dc8 pm8 cd8 ct8 : Value} {f9 : Addr} {od9 an9 : Option Addr} {sl9 : Array (Option Value)} {oc9 kV9 dc9 pm9 cd9 ct9 : Value} {f10 : Addr} {od10 an10 : Option Addr} {sl10 : Array (Option Value)} {oc10 kV10 dc10 pm10 cd10 ct10 : Value} {f11 : Addr} {od11 an11 : Option Addr} {sl11 : Array (Option Value)} {oc11 kV11 dc11 pm11 cd11 ct11 : Value} {f12 : Addr} {od12 an12 : Option Addr} {sl12 : Array (Option Value)} {oc12 kV12 dc12 pm12 cd12 ct12 : Value} {f13 : Addr} {od13 an13 : Option Addr} {sl13 : Array (Option Value)} {oc13 kV13 dc13 pm13 cd13 ct13 : Value}
    (a0 : PySem.W.nsIn K mainGlobals "are_contrary" = some (some (.ref f0))) (l0 : K.lookup f0 = some ⟨oc0, od0, .func (PySem.W.fnOf "are_contrary" "are_contrary" (defArgs s_are_contrary) (defBody s_are_contrary) (defScope s_are_contrary) .none kV0 dc0 pm0 an0 cd0 ct0), sl0⟩) (c0 : PySem.W.codeIn K cd0 "are_contrary" = true) (k0 : PySem.W.keepIn K (.ref f0) = true)
    (a1 : PySem.W.nsIn K mainGlobals "first_gentle" = some (some (.ref f1))) (l1 : K.lookup f1 = some ⟨oc1, od1, .func (PySem.W.fnOf "first_gentle" "first_gentle" (defArgs s_first_gentle) (defBody s_first_gentle) (defScope s_first_gentle) .none kV1 dc1 pm1 an1 cd1 ct1), sl1⟩) (c1 : PySem.W.codeIn K cd1 "first_gentle" = true) (k1 : PySem.W.keepIn K (.ref f1) = true)
    (a2 : PySem.W.nsIn K mainGlobals "meetings" = some (some (.ref f2))) (l2 : K.lookup f2 = some ⟨oc2, od2, .func (PySem.W.fnOf "meetings" "meetings" (defArgs s_meetings) (defBody s_meetings) (defScope s_meetings) .none kV2 dc2 pm2 an2 cd2 ct2), sl2⟩) (c2 : PySem.W.codeIn K cd2 "meetings" = true) (k2 : PySem.W.keepIn K (.ref f2) = true)
    (a3 : PySem.W.nsIn K mainGlobals "both_words" = some (some (.ref f3))) (l3 : K.lookup f3 = some ⟨oc3, od3, .func (PySem.W.fnOf "both_words" "both_words" (defArgs s_both_words) (defBody s_both_words) (defScope s_both_words) .none kV3 dc3 pm3 an3 cd3 ct3), sl3⟩) (c3 : PySem.W.codeIn K cd3 "both_words" = true) (k3 : PySem.W.keepIn K (.ref f3) = true)
    (a4 : PySem.W.nsIn K mainGlobals "ways_to" = some (some (.ref f4))) (l4 : K.lookup f4 = some ⟨oc4, od4, .func (PySem.W.fnOf "ways_to" "ways_to" (defArgs s_ways_to) (defBody s_ways_to) (defScope s_ways_to) .none kV4 dc4 pm4 an4 cd4 ct4), sl4⟩) (c4 : PySem.W.codeIn K cd4 "ways_to" = true) (k4 : PySem.W.keepIn K (.ref f4) = true)
    (a5 : PySem.W.nsIn K mainGlobals "cores_many" = some (some (.ref f5))) (l5 : K.lookup f5 = some ⟨oc5, od5, .func (PySem.W.fnOf "cores_many" "cores_many" (defArgs s_cores_many) (defBody s_cores_many) (defScope s_cores_many) .none kV5 dc5 pm5 an5 cd5 ct5), sl5⟩) (c5 : PySem.W.codeIn K cd5 "cores_many" = true) (k5 : PySem.W.keepIn K (.ref f5) = true)
    (a6 : PySem.W.nsIn K mainGlobals "_law_cell_at" = some (some (.ref f6))) (l6 : K.lookup f6 = some ⟨oc6, od6, .func (PySem.W.fnOf "_law_cell_at" "_law_cell_at" (defArgs s__law_cell_at) (defBody s__law_cell_at) (defScope s__law_cell_at) .none kV6 dc6 pm6 an6 cd6 ct6), sl6⟩) (c6 : PySem.W.codeIn K cd6 "_law_cell_at" = true) (k6 : PySem.W.keepIn K (.ref f6) = true)
    (a7 : PySem.W.nsIn K mainGlobals "_law_box" = some (some (.ref f7))) (l7 : K.lookup f7 = some ⟨oc7, od7, .func (PySem.W.fnOf "_law_box" "_law_box" (defArgs s__law_box) (defBody s__law_box) (defScope s__law_box) .none kV7 dc7 pm7 an7 cd7 ct7), sl7⟩) (c7 : PySem.W.codeIn K cd7 "_law_box" = true) (k7 : PySem.W.keepIn K (.ref f7) = true)
    (a8 : PySem.W.nsIn K mainGlobals "_law_take" = some (some (.ref f8))) (l8 : K.lookup f8 = some ⟨oc8, od8, .func (PySem.W.fnOf "_law_take" "_law_take" (defArgs s__law_take) (defBody s__law_take) (defScope s__law_take) .none kV8 dc8 pm8 an8 cd8 ct8), sl8⟩) (c8 : PySem.W.codeIn K cd8 "_law_take" = true) (k8 : PySem.W.keepIn K (.ref f8) = true)
    (a9 : PySem.W.nsIn K mainGlobals "_law_same" = some (some (.ref f9))) (l9 : K.lookup f9 = some ⟨oc9, od9, .func (PySem.W.fnOf "_law_same" "_law_same" (defArgs s__law_same) (defBody s__law_same) (defScope s__law_same) .none kV9 dc9 pm9 an9 cd9 ct9), sl9⟩) (c9 : PySem.W.codeIn K cd9 "_law_same" = true) (k9 : PySem.W.keepIn K (.ref f9) = true)
    (a10 : PySem.W.nsIn K mainGlobals "_law_slope" = some (some (.ref f10))) (l10 : K.lookup f10 = some ⟨oc10, od10, .func (PySem.W.fnOf "_law_slope" "_law_slope" (defArgs s__law_slope) (defBody s__law_slope) (defScope s__law_slope) .none kV10 dc10 pm10 an10 cd10 ct10), sl10⟩) (c10 : PySem.W.codeIn K cd10 "_law_slope" = true) (k10 : PySem.W.keepIn K (.ref f10) = true)
    (a11 : PySem.W.nsIn K mainGlobals "_law_books" = some (some (.ref f11))) (l11 : K.lookup f11 = some ⟨oc11, od11, .func (PySem.W.fnOf "_law_books" "_law_books" (defArgs s__law_books) (defBody s__law_books) (defScope s__law_books) .none kV11 dc11 pm11 an11 cd11 ct11), sl11⟩) (c11 : PySem.W.codeIn K cd11 "_law_books" = true) (k11 : PySem.W.keepIn K (.ref f11) = true)
    (a12 : PySem.W.nsIn K mainGlobals "_law_right" = some (some (.ref f12))) (l12 : K.lookup f12 = some ⟨oc12, od12, .func (PySem.W.fnOf "_law_right" "_law_right" (defArgs s__law_right) (defBody s__law_right) (defScope s__law_right) .none kV12 dc12 pm12 an12 cd12 ct12), sl12⟩) (c12 : PySem.W.codeIn K cd12 "_law_right" = true) (k12 : PySem.W.keepIn K (.ref f12) = true)
    (a13 : PySem.W.nsIn K mainGlobals "law" = some (some (.ref f13))) (l13 : K.lookup f13 = some ⟨oc13, od13, .func (PySem.W.fnOf "law" "law" (defArgs s_law) (defBody s_law) (defScope s_law) .none kV13 dc13 pm13 an13 cd13 ct13), sl13⟩) (c13 : PySem.W.codeIn K cd13 "law" = true) (k13 : PySem.W.keepIn K (.ref f13) = true)
    (z0 : PySem.W.nsIn K mainGlobals "abs" = some none)
    (z1 : PySem.W.nsIn K mainGlobals "all" = some none)
    (z2 : PySem.W.nsIn K mainGlobals "bool" = some none)
    (z3 : PySem.W.nsIn K mainGlobals "enumerate" = some none)
    (z4 : PySem.W.nsIn K mainGlobals "int" = some none)
    (z5 : PySem.W.nsIn K mainGlobals "isinstance" = some none)
    (z6 : PySem.W.nsIn K mainGlobals "len" = some none)
    (z7 : PySem.W.nsIn K mainGlobals "list" = some none)
    (z8 : PySem.W.nsIn K mainGlobals "max" = some none)
    (z9 : PySem.W.nsIn K mainGlobals "min" = some none)
    (z10 : PySem.W.nsIn K mainGlobals "range" = some none)
    (z11 : PySem.W.nsIn K mainGlobals "sorted" = some none)
    (z12 : PySem.W.nsIn K mainGlobals "str" = some none)
    (z13 : PySem.W.nsIn K mainGlobals "sum" = some none)
    (z14 : PySem.W.nsIn K mainGlobals "tuple" = some none)
    (z15 : PySem.W.nsIn K mainGlobals "zip" = some none) :
    ∃ fd : FuncData, (∀ (s : Shared) (v : Value), BindsTo s fd ⟨[v], []⟩ [("_law_script", v)]) ∧ ∀ base : Heap, K.In base → base.Ns mainGlobals mg → FnOk l.prog w K mg base CX0 6 fa fd ["_law_script"] (spA K 1 g_law) := by
  have e := hfa.symm.trans (PySem.W.mg_of X G a13)
  cases e
  exact ⟨PySem.W.fnOf "law" "law" (defArgs s_law) (defBody s_law) (defScope s_law) .none kV13 dc13 pm13 an13 cd13 ct13, fun s v => .of_eq rfl, fun base _ _ => ok_law { f_are_contrary := _, fd_are_contrary := _, F_are_contrary := fun_mk (st := s_are_contrary) l0 c0 k0, m_are_contrary := PySem.W.mg_of X G a0, b_are_contrary := (fun_mk (st := s_are_contrary) l0 c0 k0).binds (ps := ["one", "other"]) (fun _ _ _ _ _ _ us hl => match us, hl with | [_, _], _ => rfl), f_first_gentle := _, fd_first_gentle := _, F_first_gentle := fun_mk (st := s_first_gentle) l1 c1 k1, m_first_gentle := PySem.W.mg_of X G a1, b_first_gentle := (fun_mk (st := s_first_gentle) l1 c1 k1).binds (ps := ["slopes", "slope"]) (fun _ _ _ _ _ _ us hl => match us, hl with | [_, _], _ => rfl), f_meetings := _, fd_meetings := _, F_meetings := fun_mk (st := s_meetings) l2 c2 k2, m_meetings := PySem.W.mg_of X G a2, b_meetings := (fun_mk (st := s_meetings) l2 c2 k2).binds (ps := ["cuts", "fills"]) (fun _ _ _ _ _ _ us hl => match us, hl with | [_, _], _ => rfl), f_both_words := _, fd_both_words := _, F_both_words := fun_mk (st := s_both_words) l3 c3 k3, m_both_words := PySem.W.mg_of X G a3, b_both_words := (fun_mk (st := s_both_words) l3 c3 k3).binds (ps := ["pair"]) (fun _ _ _ _ _ _ us hl => match us, hl with | [_], _ => rfl), f_ways_to := _, fd_ways_to := _, F_ways_to := fun_mk (st := s_ways_to) l4 c4 k4, m_ways_to := PySem.W.mg_of X G a4, b_ways_to := (fun_mk (st := s_ways_to) l4 c4 k4).binds (ps := ["word", "ahead", "many"]) (fun _ _ _ _ _ _ us hl => match us, hl with | [_, _, _], _ => rfl), f_cores_many := _, fd_cores_many := _, F_cores_many := fun_mk (st := s_cores_many) l5 c5 k5, m_cores_many := PySem.W.mg_of X G a5, b_cores_many := (fun_mk (st := s_cores_many) l5 c5 k5).binds (ps := ["cuts", "fills"]) (fun _ _ _ _ _ _ us hl => match us, hl with | [_, _], _ => rfl), f__law_cell_at := _, fd__law_cell_at := _, F__law_cell_at := fun_mk (st := s__law_cell_at) l6 c6 k6, m__law_cell_at := PySem.W.mg_of X G a6, b__law_cell_at := (fun_mk (st := s__law_cell_at) l6 c6 k6).binds (ps := ["_law_script", "_law_k"]) (fun _ _ _ _ _ _ us hl => match us, hl with | [_, _], _ => rfl), f__law_box := _, fd__law_box := _, F__law_box := fun_mk (st := s__law_box) l7 c7 k7, m__law_box := PySem.W.mg_of X G a7, b__law_box := (fun_mk (st := s__law_box) l7 c7 k7).binds (ps := ["_law_script", "_law_k"]) (fun _ _ _ _ _ _ us hl => match us, hl with | [_, _], _ => rfl), f__law_take := _, fd__law_take := _, F__law_take := fun_mk (st := s__law_take) l8 c8 k8, m__law_take := PySem.W.mg_of X G a8, b__law_take := (fun_mk (st := s__law_take) l8 c8 k8).binds (ps := ["_law_box_here", "_law_size"]) (fun _ _ _ _ _ _ us hl => match us, hl with | [_, _], _ => rfl), f__law_same := _, fd__law_same := _, F__law_same := fun_mk (st := s__law_same) l9 c9 k9, m__law_same := PySem.W.mg_of X G a9, b__law_same := (fun_mk (st := s__law_same) l9 c9 k9).binds (ps := ["_law_told", "_law_due"]) (fun _ _ _ _ _ _ us hl => match us, hl with | [_, _], _ => rfl), f__law_slope := _, fd__law_slope := _, F__law_slope := fun_mk (st := s__law_slope) l10 c10 k10, m__law_slope := PySem.W.mg_of X G a10, b__law_slope := (fun_mk (st := s__law_slope) l10 c10 k10).binds (ps := ["_law_box_here"]) (fun _ _ _ _ _ _ us hl => match us, hl with | [_], _ => rfl), f__law_books := _, fd__law_books := _, F__law_books := fun_mk (st := s__law_books) l11 c11 k11, m__law_books := PySem.W.mg_of X G a11, b__law_books := (fun_mk (st := s__law_books) l11 c11 k11).binds (ps := ["_law_box_here", "_law_size"]) (fun _ _ _ _ _ _ us hl => match us, hl with | [_, _], _ => rfl), f__law_right := _, fd__law_right := _, F__law_right := fun_mk (st := s__law_right) l12 c12 k12, m__law_right := PySem.W.mg_of X G a12, b__law_right := (fun_mk (st := s__law_right) l12 c12 k12).binds (ps := ["_law_box_here"]) (fun _ _ _ _ _ _ us hl => match us, hl with | [_], _ => rfl), f_law := _, fd_law := _, F_law := fun_mk (st := s_law) l13 c13 k13, m_law := PySem.W.mg_of X G a13, b_law := (fun_mk (st := s_law) l13 c13 k13).binds (ps := ["_law_script"]) (fun _ _ _ _ _ _ us hl => match us, hl with | [_], _ => rfl), z_abs := PySem.W.mg_none_of X G z0, z_all := PySem.W.mg_none_of X G z1, z_bool := PySem.W.mg_none_of X G z2, z_enumerate := PySem.W.mg_none_of X G z3, z_int := PySem.W.mg_none_of X G z4, z_isinstance := PySem.W.mg_none_of X G z5, z_len := PySem.W.mg_none_of X G z6, z_list := PySem.W.mg_none_of X G z7, z_max := PySem.W.mg_none_of X G z8, z_min := PySem.W.mg_none_of X G z9, z_range := PySem.W.mg_none_of X G z10, z_sorted := PySem.W.mg_none_of X G z11, z_str := PySem.W.mg_none_of X G z12, z_sum := PySem.W.mg_none_of X G z13, z_tuple := PySem.W.mg_none_of X G z14, z_zip := PySem.W.mg_none_of X G z15 }⟩
theorem law_sp (K : PySem.W.Frag) (H : Hp) (a : Addr) (ns : List Int) (hl : ns.length ≤ 63) (_ : Only H) (hS : SqL K H a (ns.map V.int)) : spA K 1 g_law [.ref a] H (fun v _ => v = .bl true) fun _ _ _ => False := by
  refine ⟨H, [.scr ns], fun c => c = .val (.bl true), rfl, .refl H, .cons (.scr hS) .nil, ⟨ns, rfl, hl, rfl⟩, fun v c F' H' u S e => ?_⟩
  subst e
  obtain ⟨v', h1, h2⟩ := S.val 0 (.bl true) rfl
  cases h1
  exact h2.blInv
end Pl
open PySem PySem.W PyProof.Rows
set_option maxHeartbeats 0 in
theorem PySem.Challenge.cw_dunebooks_k78_whole_cores_counted_by_slo_holds : PySem.Challenge.rw_dunebooks_k78_whole_cores_counted_by_slo.Holds := by
  w_on; o_law; k_head; (case hw => w_witness2)
  k_fill
  refine L2.walk_ofK (l := PySem.Challenge.rw_dunebooks_k78_whole_cores_counted_by_slo) (n := 63) (k := 6) (x := "_law_script") (CX := L2.CX0) (sp := fun K => Pl.spA K 1 Pl.g_law) rfl (by decide) rfl ⟨rfl, by decide, by decide⟩ (fun w h Y => PySem.W.kIn_of Y) ?F Pl.law_sp (fun _ _ _ _ h => h)
  case F =>
    intro w mg fa h KX G hmg
    refine' Pl.all_mk KX G hmg ?a0 ?l0 ?c0 ?k0 ?a1 ?l1 ?c1 ?k1 ?a2 ?l2 ?c2 ?k2 ?a3 ?l3 ?c3 ?k3 ?a4 ?l4 ?c4 ?k4 ?a5 ?l5 ?c5 ?k5 ?a6 ?l6 ?c6 ?k6 ?a7 ?l7 ?c7 ?k7 ?a8 ?l8 ?c8 ?k8 ?a9 ?l9 ?c9 ?k9 ?a10 ?l10 ?c10 ?k10 ?a11 ?l11 ?c11 ?k11 ?a12 ?l12 ?c12 ?k12 ?a13 ?l13 ?c13 ?k13 ?z0 ?z1 ?z2 ?z3 ?z4 ?z5 ?z6 ?z7 ?z8 ?z9 ?z10 ?z11 ?z12 ?z13 ?z14 ?z15
    (case a0 => k_is); (case l0 => k_is); (case c0 => k_is); (case k0 => k_is); (case a1 => k_is); (case l1 => k_is); (case c1 => k_is); (case k1 => k_is); (case a2 => k_is); (case l2 => k_is); (case c2 => k_is); (case k2 => k_is); (case a3 => k_is); (case l3 => k_is); (case c3 => k_is); (case k3 => k_is); (case a4 => k_is); (case l4 => k_is); (case c4 => k_is); (case k4 => k_is); (case a5 => k_is); (case l5 => k_is); (case c5 => k_is); (case k5 => k_is); (case a6 => k_is); (case l6 => k_is); (case c6 => k_is); (case k6 => k_is); (case a7 => k_is); (case l7 => k_is); (case c7 => k_is); (case k7 => k_is); (case a8 => k_is); (case l8 => k_is); (case c8 => k_is); (case k8 => k_is); (case a9 => k_is); (case l9 => k_is); (case c9 => k_is); (case k9 => k_is); (case a10 => k_is); (case l10 => k_is); (case c10 => k_is); (case k10 => k_is); (case a11 => k_is); (case l11 => k_is); (case c11 => k_is); (case k11 => k_is); (case a12 => k_is); (case l12 => k_is); (case c12 => k_is); (case k12 => k_is); (case a13 => k_is); (case l13 => k_is); (case c13 => k_is); (case k13 => k_is); (case z0 => k_is); (case z1 => k_is); (case z2 => k_is); (case z3 => k_is); (case z4 => k_is); (case z5 => k_is); (case z6 => k_is); (case z7 => k_is); (case z8 => k_is); (case z9 => k_is); (case z10 => k_is); (case z11 => k_is); (case z12 => k_is); (case z13 => k_is); (case z14 => k_is); (case z15 => k_is)
