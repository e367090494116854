import PyProof.Rows.All
import Wide.All
import OpenK.AllK
import Wide.FinOn
import HandS.ExcInit
import KE.KExcInit
import KE.KExcIs
import HandS.ForMost
import HandS.Wide
import HandS.Zip
import HandS.Style
import HandS.IsInst
import HandS.Walk
import HandS.TupAny
import HandS.Defaults
import KE.DataMinMax
import KE.GoesNew
import HandS.NoneIn
import HandS.Deep
import HandS.More
import HandS.TupMul
import HandS.Conv
import KE.KTupSum
import HandS.Text
import HandS.Iter
import HandS.RevRange
import KE.GoesMore
import PyProof.StrBlock2
import HandS.Star
import HandS.CallSlots
import HandS.WordsExc
import HandS.ExcOwn
import KE.GoesRaise
import HandS.Dict
import HandS.Ends
import PySem.Challenge.RW_dunebooks_k50_widths_of_two_dunes
set_option Elab.async false
set_option linter.all false
set_option maxRecDepth 100000
namespace PySem
namespace OEY
open PySem.W PySem.Calls PyProof.Rows PySem.HandSPX
open Builtin Builtin.ObjectAttr
structure Over (B newId initId : String) (tl : List Value) : Prop where
  facts : ExcBaseFacts B newId initId tl
  past : ∀ self, refuseLoop self "__setattr__" tl = pure ()
  obj : tl.contains (.type "object") = true
  kind : typeOf (.type B) = pure (.type "type")
  boot : bootBuiltins (Str.ofString B) = some (.type B)
  solid : Manifest.isStub B = false
  given : handedIn (.builtin initId) = true
theorem over_value : Over "ValueError" "ValueError.__new__" "ValueError.__init__" [.type "ValueError", .type "Exception", .type "BaseException", .type "object"] :=
  ⟨F.excBase_ValueError, F.store_ValueError.passes, by decide +kernel, by kernel_rfl, by decide +kernel, by decide +kernel, by decide +kernel⟩
theorem over_lookup : Over "LookupError" "LookupError.__new__" "LookupError.__init__" [.type "LookupError", .type "Exception", .type "BaseException", .type "object"] :=
  ⟨F.excBase_LookupError, F.store_LookupError.passes, by decide +kernel, by kernel_rfl, by decide +kernel, by decide +kernel, by decide +kernel⟩
theorem over_overflow : Over "OverflowError" "OverflowError.__new__" "OverflowError.__init__" [.type "OverflowError", .type "ArithmeticError", .type "Exception", .type "BaseException", .type "object"] :=
  ⟨F.excBase_OverflowError, F.store_OverflowError.passes, by decide +kernel, by kernel_rfl, by decide +kernel, by decide +kernel, by decide +kernel⟩
end OEY
end PySem
namespace L2
open PySem PySem.Spec PyProof.Rows
structure OwnX (K : PySem.W.Frag) (C : Addr) (newId : String) (tl : List Value) : Prop where
  cls : ∃ nm q N bs sn sub ab col dd k0 k1 k2 k3 k5, K.lookup C = some (excClassObj nm q C N bs tl true sn sub ab col dd k0 k1 k2 k3 k5 newId)
  sa : PySem.W.findIn K (.ref C) "__setattr__" = some (some (.builtin "object.__setattr__"))
  exC : PySem.W.subIn K (.ref C) (.type "BaseException") = some true
  tyC : PySem.W.typeIn K (.ref C) = some (.type "type")
  kC : PySem.W.keepIn K (.ref C) = true
section
variable {X : Cx} {pins : List (Addr × Obj)} {σ : St} {H : Hp} {s : Shared} {a C dx : Addr} {f : Str} {y : V} {u : Value} {fs : List (Str × V)} {E : Value → Shared → Prop} {A : Around} {B newId initId : String} {tl : List Value}
theorem oy_init {us : List Value} {Q : Value → Shared → Prop} (O : PySem.OEY.Over B newId initId tl) (T : OwnX X.K C newId tl) (I : Inv X pins σ H s) (e : H a = some (exo a C none)) (hl : us.length ≤ sizeLine) (fin : ∀ s', Inv X pins σ H s' → Q .none s') :
    wpAny (model X.prog X.w) A (call (.builtin initId) (.ref a :: us)) Q E s := by
  obtain ⟨nm, q, N, bs, sn, sub, ab, col, dd, k0, k1, k2, k3, k5, hC⟩ := T.cls
  obtain ⟨t1, ho⟩ := exo_at I.hok e
  obtain ⟨hp, g, d, t, os⟩ := s
  refine wpAny_call (PySem.HandSPX.init_base O.facts (fun _ => rfl) (I.kIn _ _ hC) ho hl fun h' t2 k hx => ?_)
  have J := I.write (t' := t) (x := a) (e := a) (o := exo a C none) (by rw [e]; exact True.intro) (.inl rfl) k ⟨_, hx⟩ (exo_ok hx)
  have same : upd H a (exo a C none) = H := funext fun b => by
    by_cases hb : b = a
    · rw [hb, upd_same, e]
    · rw [upd_ne hb]
  rw [same] at J
  exact fin _ J
end
def tOyI (K : PySem.W.Frag) (newId : String) (tl : List Value) (ta : TA) : TE := fun σ H Q => ta σ H fun vs H1 => ∃ (a C : Addr) (ws : List V), vs = .ref a :: ws ∧ ws.length ≤ 1000 ∧ OwnX K C newId tl ∧ H1 a = some (exo a C none) ∧ Q .non H1
section
variable {X : Cx} {o e : Expr} {es : List Expr} {to te : TE} {ta : TA} {f : Str} {p p' p1 p2 pos : Pos} {B newId initId : String} {tl : List Value}
theorem pe_oyinit {pl : Sem Bool} (O : PySem.OEY.Over B newId initId tl) (hg : Gl X (Str.ofString B)) (hm : X.mg (Str.ofString B) = none) (vV : PySem.W.findCls X.K (.type B) (.type "type") "__init__" = some (.val (.builtin initId))) (ha : PA X (e :: es) ta)
    (hn : Str.ofString B ≠ "__name__" := by decide) (hdb : (Str.ofString B == ("__debug__" : Str)) = false := by decide)
    (hc : eval (.Call (.Attribute (.Name (Str.ofString B) p1) "__init__" p2) (e :: es) [] pos) X.env = (do
      let ov ← eval (.Name (Str.ofString B) p1) X.env
      standAt p2.atName
      let (f, first) ← holding [ov] (getMethod ov "__init__" pl)
      callWith pos f first (backTo pos (starEach (e :: es) X.env)) (backToKw pos (keywordEach [] X.env))) := by rfl)
    (he : starEach (e :: es) X.env = (false, eval e X.env) :: starEach es X.env := by rfl) (hpl : (backTo pos (starEach es X.env)).any (·.1) = false := by rfl) :
    PE X (.Call (.Attribute (.Name (Str.ofString B) p1) "__init__" p2) (e :: es) [] pos) (tOyI X.K newId tl ta) := by
  refine ⟨fun pins s σ H Q I h => PySem.W.methodCall_KW (ld_blt I hg hm O.boot ?_ hn hdb) hc⟩
  obtain ⟨m, fr⟩ := I.fr
  refine PySem.W.method_type fr I.ok.mod.kin O.kind O.solid vV O.given ?_
  show wpAny _ _ (callWith pos (Value.builtin initId) [] (backTo pos (starEach (e :: es) X.env)) []) _ _ _
  refine PyProof.Rows.callWith_method1 (thn (ha.run pos pins _ σ H _ (I.tok _) h) fun us s1 ⟨vs, H1, I1, r1, a, C, ws, ev, hl, T, ea, q⟩ => ?_) he hpl
  subst ev
  match us, r1 with
  | _ :: ur, .cons ra rw' =>
    cases ra
    exact oy_init O T I1 ea (by rw [← Paired.length rw', sizeLine_eq]; omega) fun s' J => ⟨.non, H1, J, rfl, q⟩
end
end L2
namespace L2
open PySem PySem.Spec PyProof.Rows
def exk (a C dd : Addr) : HO := .ext fun h => ∃ (oe : Obj) (vs : Array Value), h.get? a = some oe ∧ oe.cls = .ref C ∧ oe.dict = some dd ∧ oe.data = .fields vs
def xfield (c : Str) : Str :=
  if c = "Clash" then "places" else if c = "Against" then "place" else if c = "Astray" then "number" else if c = "BadText" then "at" else if c = "BadRow" then "row" else
  if c = "NoPost" then "post" else if c = "NoOrder" then "number" else if c = "NoCore" then "core" else "many"
inductive XB where
  | v | l | o
def xb (c : Str) : XB := if c ∈ (["Clash", "Against", "Unlike", "Astray", "BadText", "BadRow"] : List Str) then .v else if c = "TooMany" then .o else .l
def XB.tl : XB → List String
  | .v => ["ValueError", "Exception", "BaseException", "object"]
  | .l => ["LookupError", "Exception", "BaseException", "object"]
  | .o => ["OverflowError", "ArithmeticError", "Exception", "BaseException", "object"]
def XB.nm : XB → String
  | .v => "ValueError"
  | .l => "LookupError"
  | .o => "OverflowError"
def XB.new : XB → String
  | .v => "ValueError.__new__"
  | .l => "LookupError.__new__"
  | .o => "OverflowError.__new__"
def XB.ini : XB → String
  | .v => "ValueError.__init__"
  | .l => "LookupError.__init__"
  | .o => "OverflowError.__init__"
theorem XB.over (b : XB) : PySem.OEY.Over b.nm b.new b.ini (b.tl.map Value.type) := by
  cases b
  · exact PySem.OEY.over_value
  · exact PySem.OEY.over_lookup
  · exact PySem.OEY.over_overflow
end L2
namespace Pl
open PySem PySem.Spec PyProof.Rows L2
inductive D where
  | non | bl (b : Bool) | int (i : Int) | str (x : Str) | lst (xs : List D) | tup (xs : List D) | scr (ns : List Int) | adr (a : Addr) | exc (c : Str) (y : D)
mutual
inductive Rep (K : PySem.W.Frag) (F : Hp) : V → D → Prop
  | non : Rep K F .non .non
  | bl (b : Bool) : Rep K F (.bl b) (.bl b)
  | int (i : Int) : Rep K F (.int i) (.int i)
  | str (x : Str) : Rep K F (.str x) (.str x)
  | lst {a : Addr} {vs : List V} {ds : List D} : F a = some (.lst vs) → Reps K F vs ds → Rep K F (.ref a) (.lst ds)
  | tup {a : Addr} {vs : List V} {ds : List D} : F a = some (.tup vs) → Reps K F vs ds → Rep K F (.ref a) (.tup ds)
  | scr {a : Addr} {ns : List Int} : SqL K F a (ns.map V.int) → Rep K F (.ref a) (.scr ns)
  | adr (a : Addr) : Rep K F (.ref a) (.adr a)
  | exc {a C dd : Addr} {v : V} {c : Str} {y : D} : PySem.W.nsIn K mainGlobals c = some (some (.ref C)) → F a = some (exk a C dd) → F dd = some (.xd [(xfield c, v)]) → Rep K F v y → Rep K F (.ref a) (.exc c y)
inductive Reps (K : PySem.W.Frag) (F : Hp) : List V → List D → Prop
  | nil : Reps K F [] []
  | cons {v : V} {vs : List V} {d : D} {ds : List D} : Rep K F v d → Reps K F vs ds → Reps K F (v :: vs) (d :: ds)
end
section
variable {K : PySem.W.Frag} {F F' : Hp}
mutual
theorem Rep.mono (e : Same F F') : ∀ {v : V} {d : D}, Rep K F v d → Rep K F' v d
  | _, _, .non => .non
  | _, _, .bl b => .bl b
  | _, _, .int i => .int i
  | _, _, .str x => .str x
  | _, _, .lst h r => .lst (e _ _ h) (Reps.mono e r)
  | _, _, .tup h r => .tup (e _ _ h) (Reps.mono e r)
  | _, _, .scr h => .scr (e.seq h)
  | _, _, .adr a => .adr a
  | _, _, .exc h1 h2 h3 r => .exc h1 (e _ _ h2) (e _ _ h3) (Rep.mono e r)
theorem Reps.mono (e : Same F F') : ∀ {vs : List V} {ds : List D}, Reps K F vs ds → Reps K F' vs ds
  | _, _, .nil => .nil
  | _, _, .cons h r => .cons (Rep.mono e h) (Reps.mono e r)
end
theorem Reps.length : ∀ {vs : List V} {ds : List D}, Reps K F vs ds → vs.length = ds.length
  | _, _, .nil => rfl
  | _, _, .cons _ r => by simp [Reps.length r]
theorem Reps.get : ∀ {vs : List V} {ds : List D} {i : Nat} {d : D}, Reps K F vs ds → ds[i]? = some d → ∃ v, vs[i]? = some v ∧ Rep K F v d
  | _, _, _, _, .nil, e => by simp at e
  | _, _, 0, _, .cons r _, e => by simp at e; subst e; exact ⟨_, rfl, r⟩
  | _, _, i + 1, d, .cons _ t, e => by
    obtain ⟨u, h1, h2⟩ := Reps.get (i := i) (d := d) t (by simpa using e)
    exact ⟨u, by simpa using h1, h2⟩
theorem Reps.append : ∀ {vs ws : List V} {ds es : List D}, Reps K F vs ds → Reps K F ws es → Reps K F (vs ++ ws) (ds ++ es)
  | _, _, _, _, .nil, s => s
  | _, _, _, _, .cons r t, s => .cons r (Reps.append t s)
theorem Reps.one {v : V} {d : D} (h : Rep K F v d) : Reps K F [v] [d] := .cons h .nil
theorem Reps.set {v : V} {d : D} (r : Rep K F v d) : ∀ {vs : List V} {ds : List D} (i : Nat), Reps K F vs ds → Reps K F (vs.set i v) (ds.set i d)
  | _, _, _, .nil => .nil
  | _, _, 0, .cons _ t => .cons r t
  | _, _, i + 1, .cons q t => .cons q (Reps.set r i t)
theorem Reps.drop : ∀ {vs : List V} {ds : List D} (n : Nat), Reps K F vs ds → Reps K F (vs.drop n) (ds.drop n)
  | _, _, 0, h => h
  | _, _, _ + 1, .nil => .nil
  | _, _, n + 1, .cons _ t => Reps.drop n t
theorem Reps.take : ∀ {vs : List V} {ds : List D} (n : Nat), Reps K F vs ds → Reps K F (vs.take n) (ds.take n)
  | _, _, 0, _ => .nil
  | _, _, _ + 1, .nil => .nil
  | _, _, n + 1, .cons r t => .cons r (Reps.take n t)
theorem Reps.reverse : ∀ {vs : List V} {ds : List D}, Reps K F vs ds → Reps K F vs.reverse ds.reverse
  | _, _, .nil => .nil
  | _, _, .cons r t => by
    rw [List.reverse_cons, List.reverse_cons]
    exact (Reps.reverse t).append (.one r)
theorem Reps.ints : ∀ {vs : List V} {ns : List Int}, Reps K F vs (ns.map D.int) → vs = ns.map V.int
  | _, [], .nil => rfl
  | _, n :: ns, .cons h t => by cases h; rw [Reps.ints t]; rfl
theorem Reps.ofInts : ∀ (ns : List Int), Reps K F (ns.map V.int) (ns.map D.int)
  | [] => .nil
  | n :: ns => .cons (.int n) (Reps.ofInts ns)
theorem Reps.bls : ∀ {vs : List V} {bs : List Bool}, Reps K F vs (bs.map D.bl) → vs = bs.map V.bl
  | _, [], .nil => rfl
  | _, n :: ns, .cons h t => by cases h; rw [Reps.bls t]; rfl
end
inductive Fd where
  | val (d : D) | own (a : Addr) (xs : List D)
inductive Sh where
  | dic (a : Addr) (ps : List (L2.Key × D)) | ins (a C dx : Addr) (fs : List (Str × Fd))
  | dicL (a : Addr) (o : Obj) (kvs : List (L2.Key × V)) (ps : List (L2.Key × D))
inductive Cell where
  | val (d : D) | own (a : Addr) (xs : List D) | box (s : Sh)
abbrev Ro := List (Option Cell)
def KvR (K : PySem.W.Frag) (F : Hp) : List (L2.Key × V) → List (L2.Key × D) → Prop
  | [], [] => True
  | p :: ps, q :: qs => p.1 = q.1 ∧ Rep K F p.2 q.2 ∧ KvR K F ps qs
  | _, _ => False
def Fd.foot : Fd → List Addr
  | .val _ => []
  | .own a _ => [a]
def Fd.At (K : PySem.W.Frag) (F H : Hp) (v : V) : Fd → Prop
  | .val d => Rep K F v d
  | .own a xs => v = .ref a ∧ ∃ vs, H a = some (.lst vs) ∧ Reps K F vs xs
def FsR (K : PySem.W.Frag) (F H : Hp) : List (Str × V) → List (Str × Fd) → Prop
  | [], [] => True
  | p :: ps, q :: qs => p.1 = q.1 ∧ q.2.At K F H p.2 ∧ FsR K F H ps qs
  | _, _ => False
def fsFoot (fs : List (Str × Fd)) : List Addr := fs.flatMap fun p => p.2.foot
def Sh.root : Sh → Addr
  | .dic a _ => a
  | .ins a _ _ _ => a
  | .dicL a _ _ _ => a
def Sh.foot : Sh → List Addr
  | .dic a _ => [a]
  | .ins a _ dx fs => a :: dx :: fsFoot fs
  | .dicL a _ _ _ => [a]
def Sh.At (K : PySem.W.Frag) (F H : Hp) : Sh → Prop
  | .dic a ps => ∃ kvs, H a = some (.dK kvs) ∧ KvR K F kvs ps
  | .ins a C dx fs => (fsFoot fs).Nodup ∧ ∃ vs, H a = some (.ins C dx vs) ∧ H dx = some (.own a) ∧ FsR K F H vs fs
  | .dicL a o kvs ps => H a = some (.frz o (.dK kvs)) ∧ KvR K F kvs ps
theorem KvR.mono {K : PySem.W.Frag} {F F' : Hp} (sm : Same F F') : ∀ {kvs : List (L2.Key × V)} {ps : List (L2.Key × D)}, KvR K F kvs ps → KvR K F' kvs ps
  | [], [], _ => trivial
  | _ :: _, _ :: _, h => ⟨h.1, h.2.1.mono sm, KvR.mono sm h.2.2⟩
  | [], _ :: _, h => h.elim
  | _ :: _, [], h => h.elim
theorem FsR.mono {K : PySem.W.Frag} {F F' H H' : Hp} (sm : Same F F') : ∀ {vs : List (Str × V)} {fs : List (Str × Fd)}, (∀ p ∈ fsFoot fs, H' p = H p) → FsR K F H vs fs → FsR K F' H' vs fs
  | [], [], _, _ => trivial
  | (x, v) :: vs, (y, .val d) :: fs, e, h => ⟨h.1, h.2.1.mono sm, FsR.mono sm e h.2.2⟩
  | (x, v) :: vs, (y, .own a xs) :: fs, e, h => ⟨h.1, by
    obtain ⟨h1, ws, h2, h3⟩ := h.2.1
    exact ⟨h1, ws, by rw [e a (List.mem_cons_self)]; exact h2, h3.mono sm⟩, FsR.mono sm (fun p m => e p (List.mem_cons_of_mem _ m)) h.2.2⟩
  | [], _ :: _, _, h => h.elim
  | _ :: _, [], _, h => h.elim
theorem FsR.live {K : PySem.W.Frag} {F H : Hp} : ∀ {vs : List (Str × V)} {fs : List (Str × Fd)}, FsR K F H vs fs → ∀ p ∈ fsFoot fs, ∃ o, H p = some o
  | [], [], _, p, m => by cases m
  | (x, v) :: vs, (y, .val d) :: fs, h, p, m => FsR.live h.2.2 p m
  | (x, v) :: vs, (y, .own a xs) :: fs, h, p, m => by
    have m : p ∈ a :: fsFoot fs := m
    rcases List.mem_cons.mp m with rfl | m
    · obtain ⟨h1, ws, h2, h3⟩ := h.2.1
      exact ⟨_, h2⟩
    · exact FsR.live h.2.2 p m
  | [], _ :: _, h, _, _ => h.elim
  | _ :: _, [], h, _, _ => h.elim
theorem Sh.At.mono {K : PySem.W.Frag} {F F' H H' : Hp} {s : Sh} (h : s.At K F H) (sm : Same F F') (e : ∀ p ∈ s.foot, H' p = H p) : s.At K F' H' := by
  cases s with
  | dic a ps =>
    obtain ⟨kvs, h1, h2⟩ := h
    exact ⟨kvs, by rw [e a (by simp [Sh.foot])]; exact h1, h2.mono sm⟩
  | ins a C dx fs =>
    obtain ⟨n, vs, h1, h2, h3⟩ := h
    exact ⟨n, vs, by rw [e a (by simp [Sh.foot])]; exact h1, by rw [e dx (by simp [Sh.foot])]; exact h2, h3.mono sm fun p m => e p (by simp [Sh.foot, m])⟩
  | dicL a o kvs ps => exact ⟨by rw [e a (by simp [Sh.foot])]; exact h.1, h.2.mono sm⟩
theorem Sh.At.live {K : PySem.W.Frag} {F H : Hp} {s : Sh} (h : s.At K F H) {p : Addr} (m : p ∈ s.foot) : ∃ o, H p = some o := by
  cases s with
  | dic a ps =>
    obtain ⟨kvs, h1, h2⟩ := h
    rw [List.mem_singleton.mp m]; exact ⟨_, h1⟩
  | ins a C dx fs =>
    obtain ⟨n, vs, h1, h2, h3⟩ := h
    have m : p ∈ a :: dx :: fsFoot fs := m
    rcases List.mem_cons.mp m with rfl | m
    · exact ⟨_, h1⟩
    rcases List.mem_cons.mp m with rfl | m
    · exact ⟨_, h2⟩
    · exact h3.live p m
  | dicL a o kvs ps => rw [List.mem_singleton.mp m]; exact ⟨_, h.1⟩
def InBox (ρ : Ro) (p : Addr) : Prop := ∃ (i : Nat) (s : Sh), ρ[i]? = some (some (.box s)) ∧ p ∈ s.foot
structure BxOk (K : PySem.W.Frag) (F G H : Hp) (σ : L2.St) (ρ : Ro) : Prop where
  box : ∀ (i : Nat) (s : Sh), ρ[i]? = some (some (.box s)) → σ[i]? = some (some (.ref s.root)) ∧ (∀ p ∈ s.foot, F p = none ∧ G p = none) ∧ s.At K F H
  bb : ∀ (i j : Nat) (s t : Sh) (p : Addr), ρ[i]? = some (some (.box s)) → ρ[j]? = some (some (.box t)) → p ∈ s.foot → p ∈ t.foot → i = j
  bo : ∀ (j : Nat) (a : Addr) (xs : List D), ρ[j]? = some (some (.own a xs)) → ¬ InBox ρ a
section
variable {K : PySem.W.Frag} {F F' G G' H H' : Hp} {σ σ' : L2.St} {ρ ρ' : Ro}
theorem BxOk.to (B : BxOk K F G H σ ρ) (hs : Same F F') (hp : ∀ p, InBox ρ p → F' p = none ∧ G' p = none ∧ H' p = H p) (hb : ∀ (i : Nat) (s : Sh), ρ'[i]? = some (some (.box s)) → ρ[i]? = some (some (.box s)) ∧ σ'[i]? = σ[i]?)
    (ho : ∀ (j : Nat) (a : Addr) (xs : List D), ρ'[j]? = some (some (.own a xs)) → (∃ (k : Nat) (ys : List D), ρ[k]? = some (some (.own a ys))) ∨ ¬ InBox ρ a) : BxOk K F' G' H' σ' ρ' := by
  refine ⟨fun i s q => ?_, fun i j s t p q1 q2 m1 m2 => B.bb i j s t p (hb i s q1).1 (hb j t q2).1 m1 m2, fun j a xs q m => ?_⟩
  · obtain ⟨h1, h2⟩ := hb i s q
    obtain ⟨g1, g2, g3⟩ := B.box i s h1
    exact ⟨h2.trans g1, fun p m => ⟨(hp p ⟨i, s, h1, m⟩).1, (hp p ⟨i, s, h1, m⟩).2.1⟩, g3.mono hs fun p m => (hp p ⟨i, s, h1, m⟩).2.2⟩
  · have n : ¬ InBox ρ a := (ho j a xs q).elim (fun ⟨k, ys, e⟩ => B.bo k a ys e) id
    obtain ⟨i, s, h1, h2⟩ := m
    exact n ⟨i, s, (hb i s h1).1, h2⟩
theorem BxOk.free (B : BxOk K F G H σ ρ) {p : Addr} (m : InBox ρ p) : F p = none ∧ G p = none ∧ ∃ o, H p = some o := by
  obtain ⟨i, s, h1, h2⟩ := m
  obtain ⟨g1, g2, g3⟩ := B.box i s h1
  exact ⟨(g2 p h2).1, (g2 p h2).2, g3.live h2⟩
theorem BxOk.apart (B : BxOk K F G H σ ρ) {p a : Addr} {j : Nat} {xs : List D} (m : InBox ρ p) (e : ρ[j]? = some (some (.own a xs))) : p ≠ a := fun z => by
  subst z
  exact B.bo j _ xs e m
theorem BxOk.heap (B : BxOk K F G H σ ρ) (hs : Same F F') (hp : ∀ p, InBox ρ p → F' p = none ∧ G' p = none ∧ H' p = H p) : BxOk K F' G' H' σ ρ := B.to hs hp (fun i s q => ⟨q, rfl⟩) fun j a xs q => .inl ⟨j, xs, q⟩
theorem BxOk.nil (h : ∀ (i : Nat) (s : Sh), ρ[i]? ≠ some (some (.box s))) : BxOk K F G H σ ρ := ⟨fun i s q => absurd q (h i s), fun i j s t p q1 _ _ _ => absurd q1 (h i s), fun j a xs q m => by
  obtain ⟨i, s, h1, _⟩ := m
  exact h i s h1⟩
theorem BxOk.fresh (B : BxOk K F G H σ ρ) {a : Addr} (h : H a = none) : ¬ InBox ρ a := fun m => by
  obtain ⟨_, _, o, e⟩ := B.free m
  rw [h] at e; cases e
theorem BxOk.notG (B : BxOk K F G H σ ρ) {a : Addr} {o : HO} (h : G a = some o) : ¬ InBox ρ a := fun m => by
  have := (B.free m).2.1
  rw [h] at this; cases this
theorem BxOk.unguard (B : BxOk K F G' H σ ρ) (h : Same G G') : BxOk K F G H σ ρ := B.heap (.refl _) fun p m => ⟨(B.free m).1, h.free (B.free m).2.1, rfl⟩
theorem BxOk.guard (B : BxOk K F G H σ ρ) {p : Addr} {o : HO} (h : ¬ InBox ρ p) : BxOk K F (upd G p o) H σ ρ := B.heap (.refl _) fun q m => ⟨(B.free m).1, by rw [upd_ne (a := p) (b := q) fun z => h (by rw [← z]; exact m)]; exact (B.free m).2.1, rfl⟩
theorem BxOk.upd' (B : BxOk K F G H σ ρ) {p : Addr} {o : HO} (h : ¬ InBox ρ p) : BxOk K F G (upd H p o) σ ρ := B.heap (.refl _) fun q m => ⟨(B.free m).1, (B.free m).2.1, upd_ne fun z => h (by rw [← z]; exact m)⟩
theorem BxOk.new (B : BxOk K F G H σ ρ) {p : Addr} {o : HO} (hF : F p = none) (h : H p = none) : BxOk K (upd F p o) G (upd H p o) σ ρ := B.heap (fun b x e => by rw [upd_ne (ne_of_none e hF)]; exact e) fun q m => by
  obtain ⟨f, g, o, e⟩ := B.free m
  have n : q ≠ p := ne_of_none e h
  exact ⟨by rw [upd_ne n]; exact f, g, by rw [upd_ne n]⟩
theorem BxOk.more (B : BxOk K F G H σ ρ) {p : Addr} {o : HO} (h : H p = none) : BxOk K F G (upd H p o) σ ρ := B.heap (.refl _) fun q m => by
  obtain ⟨f, g, o, e⟩ := B.free m
  have n : q ≠ p := ne_of_none e h
  exact ⟨f, g, by rw [upd_ne n]⟩
theorem set_box {i j : Nat} {c : Option Cell} {s : Sh} (hc : ∀ t, c ≠ some (.box t)) (q : (ρ.set i c)[j]? = some (some (.box s))) : ρ[j]? = some (some (.box s)) ∧ i ≠ j := by
  by_cases hj : i = j
  · subst hj
    by_cases hi : i < ρ.length
    · rw [List.getElem?_set_self hi] at q; exact absurd (Option.some.inj q) (hc s)
    · rw [List.getElem?_eq_none (by simpa using hi)] at q; cases q
  · rw [List.getElem?_set_ne hj] at q; exact ⟨q, hj⟩
theorem set_inbox {i : Nat} {c : Option Cell} {p : Addr} (hc : ∀ t, c ≠ some (.box t)) : InBox (ρ.set i c) p → InBox ρ p := fun ⟨j, s, e, m⟩ => ⟨j, s, (set_box hc e).1, m⟩
theorem set_own {i j : Nat} {c : Option Cell} {a : Addr} {xs : List D} (q : (ρ.set i c)[j]? = some (some (.own a xs))) : c = some (.own a xs) ∨ ρ[j]? = some (some (.own a xs)) := by
  by_cases hj : i = j
  · subst hj
    by_cases hi : i < ρ.length
    · rw [List.getElem?_set_self hi] at q; exact .inl (Option.some.inj q)
    · rw [List.getElem?_eq_none (by simpa using hi)] at q; cases q
  · rw [List.getElem?_set_ne hj] at q; exact .inr q
theorem BxOk.set (B : BxOk K F G H σ ρ) (i : Nat) (v : Option V) {c : Option Cell} (hc : ∀ t, c ≠ some (.box t)) (ho : ∀ a xs, c = some (.own a xs) → (∃ (k : Nat) (ys : List D), ρ[k]? = some (some (.own a ys))) ∨ ¬ InBox ρ a) : BxOk K F G H (σ.set i v) (ρ.set i c) :=
  B.to (.refl _) (fun p m => ⟨(B.free m).1, (B.free m).2.1, rfl⟩) (fun j s q => ⟨(set_box hc q).1, List.getElem?_set_ne (set_box hc q).2⟩) fun j a xs q => (set_own q).elim (ho a xs) fun q => .inl ⟨j, xs, q⟩
theorem BxOk.set' (B : BxOk K F G H σ ρ) (i : Nat) {c : Option Cell} (hc : ∀ t, c ≠ some (.box t)) (ho : ∀ a xs, c = some (.own a xs) → (∃ (k : Nat) (ys : List D), ρ[k]? = some (some (.own a ys))) ∨ ¬ InBox ρ a) : BxOk K F G H σ (ρ.set i c) :=
  B.to (.refl _) (fun p m => ⟨(B.free m).1, (B.free m).2.1, rfl⟩) (fun j s q => ⟨(set_box hc q).1, rfl⟩) fun j a xs q => (set_own q).elim (ho a xs) fun q => .inl ⟨j, xs, q⟩
end
structure Up (G F F' : Hp) : Prop where
  ex : Same F F'
  out : ∀ a o, F' a = some o → F a = some o ∨ G a = none
theorem Up.refl (G F : Hp) : Up G F F := ⟨.refl F, fun _ _ h => .inl h⟩
theorem Up.trans {G F F1 F2 : Hp} (a : Up G F F1) (b : Up G F1 F2) : Up G F F2 := ⟨a.ex.trans b.ex, fun x o h => by
  rcases b.out x o h with h | h
  · exact a.out x o h
  · exact .inr h⟩
theorem Up.isNone {G F F' : Hp} (u : Up G F F') {a : Addr} {o : HO} (hF : F a = none) (hG : G a = some o) : F' a = none := by
  cases q : F' a with
  | none => rfl
  | some x =>
    rcases u.out a x q with h | h
    · rw [hF] at h; cases h
    · rw [hG] at h; cases h
theorem Up.less {G G' F F' : Hp} (u : Up G F F') (h : Same G' G) : Up G' F F' := ⟨u.ex, fun a o e => by
  rcases u.out a o e with q | q
  · exact .inl q
  · exact .inr (h.free q)⟩
def Mut : HO → Prop
  | .lst _ => True
  | .dK _ => True
  | .ins _ _ _ => True
  | .own _ => True
  | .frz _ _ => True
  | _ => False
theorem FsR.mut {K : PySem.W.Frag} {F H : Hp} : ∀ {vs : List (Str × V)} {fs : List (Str × Fd)}, FsR K F H vs fs → ∀ p ∈ fsFoot fs, ∃ o, H p = some o ∧ Mut o
  | [], [], _, p, m => by cases m
  | (x, v) :: vs, (y, .val d) :: fs, h, p, m => FsR.mut h.2.2 p m
  | (x, v) :: vs, (y, .own a xs) :: fs, h, p, m => by
    have m : p ∈ a :: fsFoot fs := m
    rcases List.mem_cons.mp m with rfl | m
    · obtain ⟨h1, ws, h2, h3⟩ := h.2.1
      exact ⟨_, h2, trivial⟩
    · exact FsR.mut h.2.2 p m
  | [], _ :: _, h, _, _ => h.elim
  | _ :: _, [], h, _, _ => h.elim
theorem Sh.At.mut {K : PySem.W.Frag} {F H : Hp} {s : Sh} (h : s.At K F H) {p : Addr} (m : p ∈ s.foot) : ∃ o, H p = some o ∧ Mut o := by
  cases s with
  | dic a ps =>
    obtain ⟨kvs, h1, h2⟩ := h
    rw [List.mem_singleton.mp m]; exact ⟨_, h1, trivial⟩
  | ins a C dx fs =>
    obtain ⟨n, vs, h1, h2, h3⟩ := h
    have m : p ∈ a :: dx :: fsFoot fs := m
    rcases List.mem_cons.mp m with rfl | m
    · exact ⟨_, h1, trivial⟩
    rcases List.mem_cons.mp m with rfl | m
    · exact ⟨_, h2, trivial⟩
    · exact h3.mut p m
  | dicL a o kvs ps => rw [List.mem_singleton.mp m]; exact ⟨_, h.1, trivial⟩
theorem BxOk.mut {K : PySem.W.Frag} {F G H : Hp} {σ : L2.St} {ρ : Ro} (B : BxOk K F G H σ ρ) {p : Addr} (m : InBox ρ p) : ∃ o, H p = some o ∧ Mut o := by
  obtain ⟨i, s, h1, h2⟩ := m
  exact (B.box i s h1).2.2.mut h2
class TJ where
  J : Hp → Hp → Hp → Prop
  step : ∀ {G F F' H H' : Hp}, J G F H → (∀ b o, H b = some o → ¬ Mut o → H' b = some o) → (∀ b o, F' b = some o → F b = some o ∨ H b = none ∨ ∃ x, H b = some x ∧ Mut x) → J G F' H'
  frame : ∀ {G G' F H : Hp}, J G F H → (∀ b o, G' b = some o → G b = some o ∨ ∃ x, H b = some x ∧ Mut x) → J G' F H
@[reducible] def tj0 : TJ := ⟨fun _ _ _ => True, fun _ _ _ => trivial, fun _ _ => trivial⟩
@[reducible] instance (priority := low) tjNone : TJ := tj0
structure SameJ [TJ] (G F H : Hp) : Prop where
  same : Same G H
  tj : TJ.J G F H
section
variable [TJ] {G G' F F' H H' : Hp}
instance : CoeFun (SameJ G F H) (fun _ => ∀ a x, G a = some x → H a = some x) := ⟨fun h => h.same⟩
instance : CoeOut (SameJ G F H) (Same G H) := ⟨fun h => h.same⟩
theorem SameJ.step (h : SameJ G F H) (e : Same H H') (f : ∀ b o, F' b = some o → F b = some o ∨ H b = none ∨ ∃ vs, H b = some (.lst vs)) : SameJ G F' H' := ⟨h.same.trans e, TJ.step h.tj (fun b o q _ => e b o q) fun b o q => (f b o q).elim .inl fun z => z.elim (fun z => .inr (.inl z)) fun ⟨vs, z⟩ => .inr (.inr ⟨_, z, trivial⟩)⟩
theorem SameJ.trans (h : SameJ G F H) (e : Same H H') : SameJ G F H' := h.step e fun _ _ q => .inl q
theorem SameJ.up (h : SameJ G F H) (e : Same H H') (u : ∀ b o, F' b = some o → F b = some o ∨ H b = none) : SameJ G F' H' := h.step e fun b o q => (u b o q).elim .inl fun z => .inr (.inl z)
theorem SameJ.new (h : SameJ G F H) {p : Addr} {o : HO} (n : H p = none) : SameJ G (upd F p o) (upd H p o) := h.up (fun b x q => by rw [upd_ne (ne_of_none q n)]; exact q) fun b x q => by
  by_cases m : b = p
  · subst m; exact .inr n
  · rw [upd_ne m] at q; exact .inl q
theorem SameJ.froz (h : SameJ G F H) (f : ∀ b o, F' b = some o → F b = some o ∨ ∃ vs, H b = some (.lst vs)) : SameJ G F' H := h.step (.refl _) fun b o q => (f b o q).elim .inl fun z => .inr (.inr z)
theorem SameJ.free (h : SameJ G F H) {a : Addr} (n : H a = none) : G a = none := h.same.free n
theorem SameJ.less (h : SameJ G F H) (e : Same G' G) : SameJ G' F H := ⟨e.trans h.same, TJ.frame h.tj fun b o q => .inl (e b o q)⟩
theorem SameJ.mut (h : SameJ G F H) {a : Addr} {o u : HO} (n : G a = none) (e : H a = some o) (mo : Mut o := by trivial) : SameJ G F (upd H a u) :=
  ⟨fun b x q => by
    have m : b ≠ a := fun z => by subst z; rw [n] at q; cases q
    rw [upd_ne m]; exact h.same b x q, TJ.step h.tj (fun b o q ne => by
    have m : b ≠ a := fun z => by subst z; rw [e] at q; exact ne ((Option.some.inj q) ▸ mo)
    rw [upd_ne m]; exact q) fun _ _ q => .inl q⟩
theorem SameJ.guard (h : SameJ G F H) {a : Addr} {o : HO} (e : H a = some o) (mo : Mut o := by trivial) : SameJ (upd G a o) F H :=
  ⟨fun b x q => by
    by_cases m : b = a
    · subst m; rw [upd_same] at q; cases q; exact e
    · rw [upd_ne m] at q; exact h.same b x q, TJ.frame h.tj fun b u q => by
    by_cases m : b = a
    · subst m; exact .inr ⟨o, e, mo⟩
    · rw [upd_ne m] at q; exact .inl q⟩
end
structure Sim [TJ] (K : PySem.W.Frag) (G F H : Hp) (σ : L2.St) (ρ : Ro) : Prop where
  hF : Same F H
  hG : SameJ G F H
  len : σ.length = ρ.length
  val : ∀ (i : Nat) (d : D), ρ[i]? = some (some (.val d)) → ∃ v, σ[i]? = some (some v) ∧ Rep K F v d
  own : ∀ (i : Nat) (a : Addr) (xs : List D), ρ[i]? = some (some (.own a xs)) → σ[i]? = some (some (.ref a)) ∧ F a = none ∧ G a = none ∧ ∃ vs, H a = some (.lst vs) ∧ Reps K F vs xs
  ne : ∀ (i j : Nat) (a : Addr) (xs ys : List D), ρ[i]? = some (some (.own a xs)) → ρ[j]? = some (some (.own a ys)) → i = j
  bx : BxOk K F G H σ ρ
structure SimR (K : PySem.W.Frag) (G F H : Hp) (σ : L2.St) (ρ : Ro) : Prop where
  hF : Same F H
  hG : Same G H
  len : σ.length = ρ.length
  val : ∀ (i : Nat) (d : D), ρ[i]? = some (some (.val d)) → ∃ v, σ[i]? = some (some v) ∧ Rep K F v d
  own : ∀ (i : Nat) (a : Addr) (xs : List D), ρ[i]? = some (some (.own a xs)) → σ[i]? = some (some (.ref a)) ∧ F a = none ∧ G a = none ∧ ∃ vs, H a = some (.lst vs) ∧ Reps K F vs xs
  ne : ∀ (i j : Nat) (a : Addr) (xs ys : List D), ρ[i]? = some (some (.own a xs)) → ρ[j]? = some (some (.own a ys)) → i = j
  bx : BxOk K F G H σ ρ
theorem SameJ.rfl' (F H : Hp) : SameJ H F H := ⟨.refl H, trivial⟩
theorem SameJ.of {G F H : Hp} (h : Same G H) : SameJ G F H := ⟨h, trivial⟩
section
variable [TJ] {K : PySem.W.Frag} {G F H : Hp} {σ : L2.St} {ρ : Ro}
theorem Sim.freshF (S : Sim K G F H σ ρ) {p : Addr} (h : H p = none) : F p = none := S.hF.free h
theorem Sim.freshG (S : Sim K G F H σ ρ) {p : Addr} (h : H p = none) : G p = none := S.hG.free h
theorem same_new {H : Hp} {p : Addr} {o : HO} (h : H p = none) : Same H (upd H p o) := fun b x e => by
  rw [upd_ne (ne_of_none e h)]
  exact e
theorem Up.new {p : Addr} {o : HO} (hF : F p = none) (hG : G p = none) : Up G F (upd F p o) := ⟨same_new hF, fun a x e => by
  by_cases q : a = p
  · subst q; exact .inr hG
  · rw [upd_ne q] at e; exact .inl e⟩
theorem Sim.new (S : Sim K G F H σ ρ) {p : Addr} {o : HO} (h : H p = none) : Sim K G (upd F p o) (upd H p o) σ ρ where
  hF := fun a x e => by
    by_cases q : a = p
    · subst q; rw [upd_same] at e ⊢; exact e
    · rw [upd_ne q] at e ⊢; exact S.hF a x e
  hG := S.hG.new h
  len := S.len
  val := fun i d e => by
    obtain ⟨v, h1, h2⟩ := S.val i d e
    exact ⟨v, h1, h2.mono (same_new (S.freshF h))⟩
  own := fun i a xs e => by
    obtain ⟨h1, h2, h3, vs, h4, h5⟩ := S.own i a xs e
    have q : a ≠ p := ne_of_none h4 h
    exact ⟨h1, by rw [upd_ne q]; exact h2, h3, vs, by rw [upd_ne q]; exact h4, h5.mono (same_new (S.freshF h))⟩
  ne := S.ne
  bx := S.bx.new (S.freshF h) h
theorem Sim.upNew (S : Sim K G F H σ ρ) {p : Addr} {o : HO} (h : H p = none) : Up G F (upd F p o) := Up.new (S.freshF h) (S.freshG h)
theorem Sim.more (S : Sim K G F H σ ρ) {p : Addr} {o : HO} (h : H p = none) : Sim K G F (upd H p o) σ ρ where
  hF := S.hF.trans (same_new h)
  hG := S.hG.trans (same_new h)
  len := S.len
  val := S.val
  own := fun i a xs e => by
    obtain ⟨h1, h2, h3, vs, h4, h5⟩ := S.own i a xs e
    exact ⟨h1, h2, h3, vs, by rw [upd_ne (ne_of_none h4 h)]; exact h4, h5⟩
  ne := S.ne
  bx := S.bx.more h
theorem Sim.mut (S : Sim K G F H σ ρ) {i : Nat} {a : Addr} {xs ys : List D} {vs : List V} (e : ρ[i]? = some (some (.own a xs))) (r : Reps K F vs ys) :
    Sim K G F (upd H a (.lst vs)) σ (ρ.set i (some (.own a ys))) := by
  obtain ⟨h1, h2, h3, ws, h4, h5⟩ := S.own i a xs e
  have hi : i < ρ.length := by
    rcases Nat.lt_or_ge i ρ.length with h | h
    · exact h
    · rw [List.getElem?_eq_none h] at e; cases e
  refine ⟨fun b x q => ?_, S.hG.mut h3 h4, by simpa using S.len, fun j d q => ?_, fun j b zs q => ?_, fun j k b zs ws q1 q2 => ?_, S.bx.to (.refl _) (fun q m => ⟨(S.bx.free m).1, (S.bx.free m).2.1, upd_ne (S.bx.apart m e)⟩) (fun j s q => ⟨(set_box (by simp) q).1, rfl⟩) fun j b zs q => (set_own q).elim (fun z => by cases z; exact .inl ⟨i, xs, e⟩) fun q => .inl ⟨j, zs, q⟩⟩
  · have n : b ≠ a := fun z => by subst z; rw [h2] at q; cases q
    rw [upd_ne n]; exact S.hF b x q
  · by_cases hj : i = j
    · subst hj; rw [List.getElem?_set_self hi] at q; cases q
    · rw [List.getElem?_set_ne hj] at q; exact S.val j d q
  · by_cases hj : i = j
    · subst hj
      rw [List.getElem?_set_self hi] at q
      cases q
      exact ⟨h1, h2, h3, vs, upd_same, r⟩
    · rw [List.getElem?_set_ne hj] at q
      obtain ⟨g1, g2, g3, us, g4, g5⟩ := S.own j b zs q
      have n : b ≠ a := fun z => by subst z; exact hj (S.ne _ _ _ _ _ e q)
      exact ⟨g1, g2, g3, us, by rw [upd_ne n]; exact g4, g5⟩
  · by_cases hj : i = j
    · subst hj
      by_cases hk : i = k
      · exact hk
      · rw [List.getElem?_set_self hi] at q1
        rw [List.getElem?_set_ne hk] at q2
        cases q1
        exact absurd (S.ne _ _ _ _ _ e q2) hk
    · by_cases hk : i = k
      · subst hk
        rw [List.getElem?_set_self hi] at q2
        rw [List.getElem?_set_ne hj] at q1
        cases q2
        exact absurd (S.ne _ _ _ _ _ e q1) hj
      · rw [List.getElem?_set_ne hj] at q1
        rw [List.getElem?_set_ne hk] at q2
        exact S.ne _ _ _ _ _ q1 q2
theorem Sim.setVal (S : Sim K G F H σ ρ) (i : Nat) {v : V} {d : D} (r : Rep K F v d) : Sim K G F H (σ.set i (some v)) (ρ.set i (some (.val d))) := by
  refine ⟨S.hF, S.hG, by simpa using S.len, fun j d' q => ?_, fun j b zs q => ?_, fun j k b zs ws q1 q2 => ?_, S.bx.set i _ (by simp) (by simp)⟩
  · by_cases hj : i = j
    · subst hj
      by_cases hi : i < ρ.length
      · rw [List.getElem?_set_self hi] at q
        cases q
        exact ⟨v, List.getElem?_set_self (by rw [S.len]; exact hi), r⟩
      · rw [List.getElem?_eq_none (by simpa using hi)] at q; cases q
    · rw [List.getElem?_set_ne hj] at q ⊢; exact S.val j d' q
  · by_cases hj : i = j
    · subst hj
      by_cases hi : i < ρ.length
      · rw [List.getElem?_set_self hi] at q; cases q
      · rw [List.getElem?_eq_none (by simpa using hi)] at q; cases q
    · rw [List.getElem?_set_ne hj] at q ⊢; exact S.own j b zs q
  · have n : ∀ (j : Nat) (zs : List D), (ρ.set i (some (.val d)))[j]? = some (some (.own b zs)) → ρ[j]? = some (some (.own b zs)) := fun j zs q => by
      by_cases hj : i = j
      · subst hj
        by_cases hi : i < ρ.length
        · rw [List.getElem?_set_self hi] at q; cases q
        · rw [List.getElem?_eq_none (by simpa using hi)] at q; cases q
      · rw [List.getElem?_set_ne hj] at q; exact q
    exact S.ne _ _ _ _ _ (n _ _ q1) (n _ _ q2)
def NotOwn (ρ : Ro) (a : Addr) : Prop := (∀ (i : Nat) (xs : List D), ρ[i]? ≠ some (some (.own a xs))) ∧ ¬ InBox ρ a
theorem Sim.notOwn (S : Sim K G F H σ ρ) {a : Addr} (h : H a = none) : NotOwn ρ a := ⟨fun i xs q => (by
  obtain ⟨_, _, _, vs, h4, _⟩ := S.own i a xs q
  rw [h] at h4
  cases h4), S.bx.fresh h⟩
theorem Sim.setOwn (S : Sim K G F H σ ρ) (i : Nat) {a : Addr} {vs : List V} {xs : List D} (hH : H a = some (.lst vs)) (hF : F a = none) (hG : G a = none) (hn : NotOwn ρ a) (r : Reps K F vs xs) :
    Sim K G F H (σ.set i (some (.ref a))) (ρ.set i (some (.own a xs))) := by
  have far : ∀ (j : Nat) (c : Cell), i ≠ j → (ρ.set i (some (.own a xs)))[j]? = some (some c) → ρ[j]? = some (some c) := fun j c hj q => by
    rw [List.getElem?_set_ne hj] at q; exact q
  have near : ∀ (c : Cell), (ρ.set i (some (.own a xs)))[i]? = some (some c) → c = .own a xs ∧ i < ρ.length := fun c q => by
    by_cases hi : i < ρ.length
    · rw [List.getElem?_set_self hi] at q; cases q; exact ⟨rfl, hi⟩
    · rw [List.getElem?_eq_none (by simpa using hi)] at q; cases q
  refine ⟨S.hF, S.hG, by simpa using S.len, fun j d' q => ?_, fun j b zs q => ?_, fun j k b zs ws q1 q2 => ?_, S.bx.set i _ (by simp) fun b zs z => by cases z; exact .inr hn.2⟩
  · by_cases hj : i = j
    · subst hj; exact nomatch (near _ q).1
    · obtain ⟨v, h1, h2⟩ := S.val j d' (far _ _ hj q)
      exact ⟨v, by rw [List.getElem?_set_ne hj]; exact h1, h2⟩
  · by_cases hj : i = j
    · subst hj
      obtain ⟨e, hi⟩ := near _ q
      cases e
      exact ⟨List.getElem?_set_self (by rw [S.len]; exact hi), hF, hG, vs, hH, r⟩
    · obtain ⟨h1, h2⟩ := S.own j b zs (far _ _ hj q)
      exact ⟨by rw [List.getElem?_set_ne hj]; exact h1, h2⟩
  · by_cases hj : i = j
    · subst hj
      by_cases hk : i = k
      · exact hk
      · have e := (near _ q1).1
        cases e
        exact absurd (far _ _ hk q2) (hn.1 _ _)
    · by_cases hk : i = k
      · subst hk
        have e := (near _ q2).1
        cases e
        exact absurd (far _ _ hj q1) (hn.1 _ _)
      · exact S.ne _ _ _ _ _ (far _ _ hj q1) (far _ _ hk q2)
theorem Sim.forget (S : Sim K G F H σ ρ) (i : Nat) (x : Option V) : Sim K G F H (σ.set i x) (ρ.set i none) := by
  have far : ∀ (j : Nat) (c : Cell), (ρ.set i none)[j]? = some (some c) → ρ[j]? = some (some c) ∧ i ≠ j := fun j c q => by
    by_cases hj : i = j
    · subst hj
      by_cases hi : i < ρ.length
      · rw [List.getElem?_set_self hi] at q; cases q
      · rw [List.getElem?_eq_none (by simpa using hi)] at q; cases q
    · rw [List.getElem?_set_ne hj] at q; exact ⟨q, hj⟩
  refine ⟨S.hF, S.hG, by simpa using S.len, fun j d' q => ?_, fun j b zs q => ?_, fun j k b zs ws q1 q2 => S.ne _ _ _ _ _ (far _ _ q1).1 (far _ _ q2).1, S.bx.set i x (by simp) (by simp)⟩
  · obtain ⟨q1, hj⟩ := far _ _ q
    rw [List.getElem?_set_ne hj]
    exact S.val j d' q1
  · obtain ⟨q1, hj⟩ := far _ _ q
    rw [List.getElem?_set_ne hj]
    exact S.own j b zs q1
theorem Sim.forget' (S : Sim K G F H σ ρ) (i : Nat) : Sim K G F H σ (ρ.set i none) := by
  have far : ∀ (j : Nat) (c : Cell), (ρ.set i none)[j]? = some (some c) → ρ[j]? = some (some c) := fun j c q => by
    by_cases hj : i = j
    · subst hj
      by_cases hi : i < ρ.length
      · rw [List.getElem?_set_self hi] at q; cases q
      · rw [List.getElem?_eq_none (by simpa using hi)] at q; cases q
    · rw [List.getElem?_set_ne hj] at q; exact q
  exact ⟨S.hF, S.hG, by simpa using S.len, fun j d' q => S.val j d' (far _ _ q), fun j b zs q => S.own j b zs (far _ _ q), fun j k b zs ws q1 q2 => S.ne _ _ _ _ _ (far _ _ q1) (far _ _ q2), S.bx.set' i (by simp) (by simp)⟩
theorem Sim.freeze (S : Sim K G F H σ ρ) {i : Nat} {a : Addr} {xs : List D} (e : ρ[i]? = some (some (.own a xs))) :
    ∃ F', Up G F F' ∧ Rep K F' (.ref a) (.lst xs) ∧ Sim K G F' H σ (ρ.set i (some (.val (.lst xs)))) := by
  obtain ⟨h1, h2, h3, vs, h4, h5⟩ := S.own i a xs e
  have hi : i < ρ.length := by
    rcases Nat.lt_or_ge i ρ.length with h | h
    · exact h
    · rw [List.getElem?_eq_none h] at e; cases e
  have sm : Same F (upd F a (.lst vs)) := same_new h2
  have rp : Rep K (upd F a (.lst vs)) (.ref a) (.lst xs) := .lst upd_same (h5.mono sm)
  refine ⟨upd F a (.lst vs), Up.new h2 h3, rp, fun b x q => ?_, S.hG.froz fun b x q => ?_, by simpa using S.len, fun j d q => ?_, fun j b zs q => ?_, fun j k b zs ws q1 q2 => ?_, S.bx.to sm (fun q m => ⟨by rw [upd_ne (S.bx.apart m e)]; exact (S.bx.free m).1, (S.bx.free m).2.1, rfl⟩) (fun j s q => ⟨(set_box (by simp) q).1, rfl⟩) fun j b zs q => (set_own q).elim (fun z => by cases z) fun q => .inl ⟨j, zs, q⟩⟩
  · by_cases n : b = a
    · subst n; rw [upd_same] at q; cases q; exact h4
    · rw [upd_ne n] at q; exact S.hF b x q
  · by_cases n : b = a
    · subst n; exact .inr ⟨vs, h4⟩
    · rw [upd_ne n] at q; exact .inl q
  · by_cases hj : i = j
    · subst hj
      rw [List.getElem?_set_self hi] at q
      cases q
      exact ⟨_, h1, rp⟩
    · rw [List.getElem?_set_ne hj] at q
      obtain ⟨v, g1, g2⟩ := S.val j d q
      exact ⟨v, g1, g2.mono sm⟩
  · by_cases hj : i = j
    · subst hj
      rw [List.getElem?_set_self hi] at q; cases q
    · rw [List.getElem?_set_ne hj] at q
      obtain ⟨g1, g2, g3, us, g4, g5⟩ := S.own j b zs q
      have n : b ≠ a := fun z => by subst z; exact hj (S.ne _ _ _ _ _ e q)
      exact ⟨g1, by rw [upd_ne n]; exact g2, g3, us, g4, g5.mono sm⟩
  · have n : ∀ (j : Nat) (zs : List D), (ρ.set i (some (.val (.lst xs))))[j]? = some (some (.own b zs)) → ρ[j]? = some (some (.own b zs)) := fun j zs q => by
      by_cases hj : i = j
      · subst hj; rw [List.getElem?_set_self hi] at q; cases q
      · rw [List.getElem?_set_ne hj] at q; exact q
    exact S.ne _ _ _ _ _ (n _ _ q1) (n _ _ q2)
end
end Pl
namespace Pl
open PySem PySem.Spec PyProof.Rows L2
variable [TJ]
abbrev TEp := Ro → (D → Ro → Prop) → Prop
abbrev TCp := Ro → (Cell → Ro → Prop) → Prop
abbrev TTp := Ro → (Bool → Ro → Prop) → Prop
abbrev TAp := Ro → (List D → Ro → Prop) → Prop
def SndE (K : PySem.W.Frag) (t : TE) (T : TEp) : Prop := ∀ (G F H : Hp) (σ : L2.St) (ρ : Ro) (Q : D → Ro → Prop) (R : VK), Sim K G F H σ ρ → T ρ Q →
  (∀ v d F' H' ρ', Up G F F' → Sim K G F' H' σ ρ' → Rep K F' v d → Q d ρ' → R v H') → t σ H R
def SndT (K : PySem.W.Frag) (t : TT) (T : TTp) : Prop := ∀ (G F H : Hp) (σ : L2.St) (ρ : Ro) (Q : Bool → Ro → Prop) (R : Bool → Hp → Prop), Sim K G F H σ ρ → T ρ Q →
  (∀ b F' H' ρ', Up G F F' → Sim K G F' H' σ ρ' → Q b ρ' → R b H') → t σ H R
def SndA (K : PySem.W.Frag) (t : TA) (T : TAp) : Prop := ∀ (G F H : Hp) (σ : L2.St) (ρ : Ro) (Q : List D → Ro → Prop) (R : List V → Hp → Prop), Sim K G F H σ ρ → T ρ Q →
  (∀ vs ds F' H' ρ', Up G F F' → Sim K G F' H' σ ρ' → Reps K F' vs ds → Q ds ρ' → R vs H') → t σ H R
def SndC (K : PySem.W.Frag) (t : TE) (T : TCp) : Prop := ∀ (G F H : Hp) (σ : L2.St) (ρ : Ro) (Q : Cell → Ro → Prop) (R : VK), Sim K G F H σ ρ → T ρ Q →
  (∀ v c F' H' ρ', Up G F F' → Sim K G F' H' (σ ++ [some v]) (ρ' ++ [some c]) → Q c ρ' → R v H') → t σ H R
structure PPE (X : Cx) (e : Expr) (t : TE) (T : TEp) : Prop where
  pe : PE X e t
  snd : SndE X.K t T
structure PPC (X : Cx) (e : Expr) (t : TE) (T : TCp) : Prop where
  pe : PE X e t
  snd : SndC X.K t T
structure PPT (X : Cx) (e : Expr) (t : TT) (T : TTp) : Prop where
  pt : PT X e t
  snd : SndT X.K t T
structure PPW (X : Cx) (e : Expr) (t : TT) (T : TTp) : Prop where
  pw : PW X e t
  snd : SndT X.K t T
structure PPA (X : Cx) (es : List Expr) (t : TA) (T : TAp) : Prop where
  pa : PA X es t
  snd : SndA X.K t T
inductive Res (K : PySem.W.Frag) (F H : Hp) (v : V) (d : D) : Hp → Hp → Prop
  | old : Rep K F v d → Res K F H v d F H
  | new {p : Addr} {o : HO} : H p = none → Rep K (upd F p o) v d → Res K F H v d (upd F p o) (upd H p o)
section
variable {K : PySem.W.Frag} {G F H F' H' : Hp} {σ : L2.St} {ρ : Ro} {v : V} {d : D}
theorem Sim.res (S : Sim K G F H σ ρ) (r : Res K F H v d F' H') : Up G F F' ∧ Sim K G F' H' σ ρ ∧ Rep K F' v d := by
  cases r with
  | old r => exact ⟨.refl _ _, S, r⟩
  | new h r => exact ⟨S.upNew h, S.new h, r⟩
theorem cut_last {ρ : Ro} {c : Cell} {i : Nat} {x : Cell} (h : (ρ ++ [some c])[i]? = some (some x)) : (ρ[i]? = some (some x) ∧ i < ρ.length) ∨ (i = ρ.length ∧ x = c) := by
  rcases Nat.lt_or_ge i ρ.length with q | q
  · rw [List.getElem?_append_left q] at h; exact .inl ⟨h, q⟩
  · rw [List.getElem?_append_right q] at h
    rcases Nat.eq_zero_or_pos (i - ρ.length) with z | z
    · rw [z] at h; simp at h; exact .inr ⟨by omega, h.symm⟩
    · rw [List.getElem?_eq_none (by simp; omega)] at h; cases h
theorem at_lt {ρ : Ro} {i : Nat} {c : Cell} (h : ρ[i]? = some (some c)) : i < ρ.length := by
  rcases Nat.lt_or_ge i ρ.length with q | q
  · exact q
  · rw [List.getElem?_eq_none q] at h; cases h
theorem at_more {ρ : Ro} {i : Nat} {x c : Cell} (h : ρ[i]? = some (some x)) : (ρ ++ [some c])[i]? = some (some x) := by rw [List.getElem?_append_left (at_lt h)]; exact h
theorem BxOk.push {G F H : Hp} {σ : L2.St} {ρ : Ro} {c : Cell} (B : BxOk K F G H σ ρ) (hl : σ.length = ρ.length) (v : Option V) (hc : ∀ t, c ≠ .box t) (ho : ∀ a xs, c = .own a xs → ¬ InBox ρ a) : BxOk K F G H (σ ++ [v]) (ρ ++ [some c]) :=
  B.to (.refl _) (fun p m => ⟨(B.free m).1, (B.free m).2.1, rfl⟩) (fun i s h => by
    rcases cut_last h with ⟨h, q⟩ | ⟨_, e⟩
    · exact ⟨h, by rw [List.getElem?_append_left (by rw [hl]; exact q)]⟩
    · exact absurd e.symm (hc s)) fun j a xs h => by
    rcases cut_last h with ⟨h, q⟩ | ⟨_, e⟩
    · exact .inl ⟨j, xs, h⟩
    · exact .inr (ho a xs e.symm)
theorem BxOk.drop {G F H : Hp} {σ : L2.St} {ρ : Ro} {c : Cell} {v : Option V} (B : BxOk K F G H (σ ++ [v]) (ρ ++ [some c])) (hl : σ.length = ρ.length) : BxOk K F G H σ ρ :=
  B.to (.refl _) (fun p m => ⟨(B.free m).1, (B.free m).2.1, rfl⟩) (fun i s h => ⟨at_more h, by rw [List.getElem?_append_left (by rw [hl]; exact at_lt h)]⟩) fun j a xs h => .inl ⟨j, xs, at_more h⟩
theorem Sim.drop {c : Cell} (S : Sim K G F H (σ ++ [some v]) (ρ ++ [some c])) : Sim K G F H σ ρ := by
  have hl : σ.length = ρ.length := by have := S.len; simpa using this
  have ix : ∀ {i : Nat} {c : Cell}, ρ[i]? = some (some c) → i < ρ.length := fun {i c} h => by
    rcases Nat.lt_or_ge i ρ.length with q | q
    · exact q
    · rw [List.getElem?_eq_none q] at h; cases h
  have up : ∀ {i : Nat} {x : Cell}, ρ[i]? = some (some x) → (ρ ++ [some c])[i]? = some (some x) := fun {i x} h => by
    rw [List.getElem?_append_left (ix h)]; exact h
  refine ⟨S.hF, S.hG, hl, fun i d h => ?_, fun i a xs h => ?_, fun i j a xs ys h1 h2 => S.ne i j a xs ys (up h1) (up h2), S.bx.drop hl⟩
  · obtain ⟨v, h1, h2⟩ := S.val i d (up h)
    rw [List.getElem?_append_left (by rw [hl]; exact ix h)] at h1
    exact ⟨v, h1, h2⟩
  · obtain ⟨h1, h2⟩ := S.own i a xs (up h)
    rw [List.getElem?_append_left (by rw [hl]; exact ix h)] at h1
    exact ⟨h1, h2⟩
theorem Sim.lastVal (S : Sim K G F H (σ ++ [some v]) (ρ ++ [some (.val d)])) : Rep K F v d := by
  have hl : σ.length = ρ.length := by have := S.len; simpa using this
  obtain ⟨u, h1, h2⟩ := S.val ρ.length d (by simp)
  rw [← hl] at h1
  simp at h1
  subst h1
  exact h2
theorem Sim.lastOwn {a : Addr} {xs : List D} (S : Sim K G F H (σ ++ [some v]) (ρ ++ [some (.own a xs)])) : v = .ref a ∧ F a = none ∧ G a = none ∧ NotOwn ρ a ∧ ∃ vs, H a = some (.lst vs) ∧ Reps K F vs xs := by
  have hl : σ.length = ρ.length := by have := S.len; simpa using this
  obtain ⟨h1, h2, h3, h4⟩ := S.own ρ.length a xs (by simp)
  rw [← hl] at h1
  simp at h1
  refine ⟨h1, h2, h3, ⟨fun i ys h => ?_, fun ⟨i, s, m1, m2⟩ => S.bx.bo ρ.length a xs (by simp) ⟨i, s, at_more m1, m2⟩⟩, h4⟩
  have hi : i < ρ.length := by
    rcases Nat.lt_or_ge i ρ.length with q | q
    · exact q
    · rw [List.getElem?_eq_none q] at h; cases h
  have := S.ne i ρ.length a ys xs (by rw [List.getElem?_append_left hi]; exact h) (by simp)
  omega
theorem Sim.pushVal (S : Sim K G F H σ ρ) (r : Rep K F v d) : Sim K G F H (σ ++ [some v]) (ρ ++ [some (.val d)]) := by
  have cut : ∀ {i : Nat} {x : Cell}, (ρ ++ [some (.val d)])[i]? = some (some x) → (ρ[i]? = some (some x) ∧ i < ρ.length) ∨ (i = ρ.length ∧ x = .val d) := fun {i x} h => by
    rcases Nat.lt_or_ge i ρ.length with q | q
    · rw [List.getElem?_append_left q] at h; exact .inl ⟨h, q⟩
    · rw [List.getElem?_append_right q] at h
      rcases Nat.eq_zero_or_pos (i - ρ.length) with z | z
      · rw [z] at h; simp at h; exact .inr ⟨by omega, h.symm⟩
      · rw [List.getElem?_eq_none (by simp; omega)] at h; cases h
  refine ⟨S.hF, S.hG, by simp [S.len], fun i d' h => ?_, fun i a xs h => ?_, fun i j a xs ys h1 h2 => ?_, S.bx.push S.len _ (by simp) (by simp)⟩
  · rcases cut h with ⟨h, q⟩ | ⟨rfl, e⟩
    · obtain ⟨u, g1, g2⟩ := S.val i d' h
      exact ⟨u, by rw [List.getElem?_append_left (by rw [S.len]; exact q)]; exact g1, g2⟩
    · cases e
      exact ⟨v, by rw [← S.len]; simp, r⟩
  · rcases cut h with ⟨h, q⟩ | ⟨_, e⟩
    · obtain ⟨g1, g2⟩ := S.own i a xs h
      exact ⟨by rw [List.getElem?_append_left (by rw [S.len]; exact q)]; exact g1, g2⟩
    · cases e
  · rcases cut h1 with ⟨h1, _⟩ | ⟨_, e⟩
    · rcases cut h2 with ⟨h2, _⟩ | ⟨_, e⟩
      · exact S.ne i j a xs ys h1 h2
      · cases e
    · cases e
theorem Sim.pushOwn (S : Sim K G F H σ ρ) {a : Addr} {vs : List V} {xs : List D} (hH : H a = some (.lst vs)) (hF : F a = none) (hG : G a = none) (hn : NotOwn ρ a) (r : Reps K F vs xs) :
    Sim K G F H (σ ++ [some (.ref a)]) (ρ ++ [some (.own a xs)]) := by
  have cut : ∀ {i : Nat} {x : Cell}, (ρ ++ [some (.own a xs)])[i]? = some (some x) → (ρ[i]? = some (some x) ∧ i < ρ.length) ∨ (i = ρ.length ∧ x = .own a xs) := fun {i x} h => by
    rcases Nat.lt_or_ge i ρ.length with q | q
    · rw [List.getElem?_append_left q] at h; exact .inl ⟨h, q⟩
    · rw [List.getElem?_append_right q] at h
      rcases Nat.eq_zero_or_pos (i - ρ.length) with z | z
      · rw [z] at h; simp at h; exact .inr ⟨by omega, h.symm⟩
      · rw [List.getElem?_eq_none (by simp; omega)] at h; cases h
  refine ⟨S.hF, S.hG, by simp [S.len], fun i d' h => ?_, fun i b ys h => ?_, fun i j b ys zs h1 h2 => ?_, S.bx.push S.len _ (by simp) fun b ys e => by cases e; exact hn.2⟩
  · rcases cut h with ⟨h, q⟩ | ⟨_, e⟩
    · obtain ⟨u, g1, g2⟩ := S.val i d' h
      exact ⟨u, by rw [List.getElem?_append_left (by rw [S.len]; exact q)]; exact g1, g2⟩
    · cases e
  · rcases cut h with ⟨h, q⟩ | ⟨rfl, e⟩
    · obtain ⟨g1, g2⟩ := S.own i b ys h
      exact ⟨by rw [List.getElem?_append_left (by rw [S.len]; exact q)]; exact g1, g2⟩
    · cases e
      exact ⟨by rw [← S.len]; simp, hF, hG, vs, hH, r⟩
  · rcases cut h1 with ⟨h1, _⟩ | ⟨e1, e⟩
    · rcases cut h2 with ⟨h2, _⟩ | ⟨_, e⟩
      · exact S.ne i j b ys zs h1 h2
      · cases e
        exact absurd h1 (hn.1 _ _)
    · cases e
      rcases cut h2 with ⟨h2, _⟩ | ⟨e2, _⟩
      · exact absurd h2 (hn.1 _ _)
      · omega
theorem Sim.lastBox {s : Sh} (S : Sim K G F H (σ ++ [some v]) (ρ ++ [some (.box s)])) : v = .ref s.root ∧ (∀ p ∈ s.foot, F p = none ∧ G p = none) ∧ s.At K F H ∧ ∀ p ∈ s.foot, NotOwn ρ p := by
  have hl : σ.length = ρ.length := by have := S.len; simpa using this
  obtain ⟨h1, h2, h3⟩ := S.bx.box ρ.length s (by simp)
  rw [← hl] at h1
  simp at h1
  refine ⟨h1, h2, h3, fun p m => ⟨fun i ys h => ?_, fun ⟨i, t, m1, m2⟩ => ?_⟩⟩
  · exact S.bx.bo i p ys (at_more h) ⟨ρ.length, s, by simp, m⟩
  · have := S.bx.bb i ρ.length t s p (at_more m1) (by simp) m2 m
    have := at_lt m1
    omega
theorem Sim.pushBox (S : Sim K G F H σ ρ) {s : Sh} (hf : ∀ p ∈ s.foot, F p = none ∧ G p = none) (ha : s.At K F H) (hn : ∀ p ∈ s.foot, NotOwn ρ p) : Sim K G F H (σ ++ [some (.ref s.root)]) (ρ ++ [some (.box s)]) := by
  refine ⟨S.hF, S.hG, by simp [S.len], fun i d' h => ?_, fun i b ys h => ?_, fun i j b ys zs h1 h2 => ?_, fun i t h => ?_, fun i j t u p h1 h2 m1 m2 => ?_, fun j a xs h ⟨i, t, h1, m⟩ => ?_⟩
  · rcases cut_last h with ⟨h, q⟩ | ⟨_, e⟩
    · obtain ⟨u, g1, g2⟩ := S.val i d' h
      exact ⟨u, by rw [List.getElem?_append_left (by rw [S.len]; exact q)]; exact g1, g2⟩
    · cases e
  · rcases cut_last h with ⟨h, q⟩ | ⟨_, e⟩
    · obtain ⟨g1, g2⟩ := S.own i b ys h
      exact ⟨by rw [List.getElem?_append_left (by rw [S.len]; exact q)]; exact g1, g2⟩
    · cases e
  · rcases cut_last h1 with ⟨h1, _⟩ | ⟨_, e⟩
    · rcases cut_last h2 with ⟨h2, _⟩ | ⟨_, e⟩
      · exact S.ne i j b ys zs h1 h2
      · cases e
    · cases e
  · rcases cut_last h with ⟨h, q⟩ | ⟨rfl, e⟩
    · obtain ⟨g1, g2⟩ := S.bx.box i t h
      exact ⟨by rw [List.getElem?_append_left (by rw [S.len]; exact q)]; exact g1, g2⟩
    · cases e
      exact ⟨by rw [← S.len]; simp, hf, ha⟩
  · rcases cut_last h1 with ⟨h1, _⟩ | ⟨e1, e⟩
    · rcases cut_last h2 with ⟨h2, _⟩ | ⟨_, e⟩
      · exact S.bx.bb i j t u p h1 h2 m1 m2
      · cases e
        exact absurd ⟨i, t, h1, m1⟩ (hn p m2).2
    · cases e
      rcases cut_last h2 with ⟨h2, _⟩ | ⟨e2, _⟩
      · exact absurd ⟨j, u, h2, m2⟩ (hn p m1).2
      · omega
  · rcases cut_last h with ⟨h, _⟩ | ⟨_, e⟩
    · rcases cut_last h1 with ⟨h1, _⟩ | ⟨_, e⟩
      · exact S.bx.bo j a xs h ⟨i, t, h1, m⟩
      · cases e
        exact (hn a m).1 j xs h
    · cases e
theorem Sim.setBox (S : Sim K G F H σ ρ) (i : Nat) {s : Sh} (hf : ∀ p ∈ s.foot, F p = none ∧ G p = none) (ha : s.At K F H) (hn : ∀ p ∈ s.foot, NotOwn ρ p) : Sim K G F H (σ.set i (some (.ref s.root))) (ρ.set i (some (.box s))) := by
  have far : ∀ (j : Nat) (c : Cell), i ≠ j → (ρ.set i (some (.box s)))[j]? = some (some c) → ρ[j]? = some (some c) := fun j c hj q => by
    rw [List.getElem?_set_ne hj] at q; exact q
  have near : ∀ (c : Cell), (ρ.set i (some (.box s)))[i]? = some (some c) → c = .box s ∧ i < ρ.length := fun c q => by
    by_cases hi : i < ρ.length
    · rw [List.getElem?_set_self hi] at q; cases q; exact ⟨rfl, hi⟩
    · rw [List.getElem?_eq_none (by simpa using hi)] at q; cases q
  have cut : ∀ {j : Nat} {x : Cell}, (ρ.set i (some (.box s)))[j]? = some (some x) → (ρ[j]? = some (some x) ∧ i ≠ j) ∨ (j = i ∧ x = .box s ∧ i < ρ.length) := fun {j x} h => by
    by_cases hj : i = j
    · subst hj; exact .inr ⟨rfl, near _ h⟩
    · exact .inl ⟨far _ _ hj h, hj⟩
  refine ⟨S.hF, S.hG, by simpa using S.len, fun j d' h => ?_, fun j b ys h => ?_, fun j k b ys zs h1 h2 => ?_, fun j t h => ?_, fun j k t u p h1 h2 m1 m2 => ?_, fun j a xs h ⟨k, t, h1, m⟩ => ?_⟩
  · rcases cut h with ⟨h, q⟩ | ⟨_, e, _⟩
    · obtain ⟨u, g1, g2⟩ := S.val j d' h
      exact ⟨u, by rw [List.getElem?_set_ne q]; exact g1, g2⟩
    · cases e
  · rcases cut h with ⟨h, q⟩ | ⟨_, e, _⟩
    · obtain ⟨g1, g2⟩ := S.own j b ys h
      exact ⟨by rw [List.getElem?_set_ne q]; exact g1, g2⟩
    · cases e
  · rcases cut h1 with ⟨h1, _⟩ | ⟨_, e, _⟩
    · rcases cut h2 with ⟨h2, _⟩ | ⟨_, e, _⟩
      · exact S.ne j k b ys zs h1 h2
      · cases e
    · cases e
  · rcases cut h with ⟨h, q⟩ | ⟨rfl, e, hi⟩
    · obtain ⟨g1, g2⟩ := S.bx.box j t h
      exact ⟨by rw [List.getElem?_set_ne q]; exact g1, g2⟩
    · cases e
      exact ⟨List.getElem?_set_self (by rw [S.len]; exact hi), hf, ha⟩
  · rcases cut h1 with ⟨h1, _⟩ | ⟨e1, e, _⟩
    · rcases cut h2 with ⟨h2, _⟩ | ⟨_, e, _⟩
      · exact S.bx.bb j k t u p h1 h2 m1 m2
      · cases e
        exact absurd ⟨j, t, h1, m1⟩ (hn p m2).2
    · cases e
      rcases cut h2 with ⟨h2, _⟩ | ⟨e2, _⟩
      · exact absurd ⟨k, u, h2, m2⟩ (hn p m1).2
      · omega
  · rcases cut h with ⟨h, _⟩ | ⟨_, e, _⟩
    · rcases cut h1 with ⟨h1, _⟩ | ⟨_, e, _⟩
      · exact S.bx.bo j a xs h ⟨k, t, h1, m⟩
      · cases e
        exact (hn a m).1 j xs h
    · cases e
theorem Sim.store {c : Cell} (S : Sim K G F H (σ ++ [some v]) (ρ ++ [some c])) (i : Nat) : Sim K G F H (σ.set i (some v)) (ρ.set i (some c)) := by
  cases c with
  | val d => exact S.drop.setVal i S.lastVal
  | own a xs =>
    obtain ⟨rfl, h2, h3, h4, vs, h5, h6⟩ := S.lastOwn
    exact S.drop.setOwn i h5 h2 h3 h4 h6
  | box s =>
    obtain ⟨rfl, h2, h3, h4⟩ := S.lastBox
    exact S.drop.setBox i h2 h3 h4
def Cell.froz : Cell → D
  | .val d => d
  | .own _ xs => .lst xs
  | .box s => .adr s.root
theorem Sim.froz {c : Cell} (S : Sim K G F H (σ ++ [some v]) (ρ ++ [some c])) : ∃ F', Up G F F' ∧ Sim K G F' H σ ρ ∧ Rep K F' v c.froz := by
  cases c with
  | val d => exact ⟨F, .refl _ _, S.drop, S.lastVal⟩
  | own a xs =>
    obtain ⟨rfl, _⟩ := S.lastOwn
    obtain ⟨F', u, r, S'⟩ := S.freeze (i := ρ.length) (a := a) (xs := xs) (by simp)
    refine ⟨F', u, ?_, r⟩
    rw [List.set_append_right _ _ (Nat.le_refl _)] at S'
    simp at S'
    exact S'.drop
  | box s =>
    obtain ⟨rfl, _⟩ := S.lastBox
    exact ⟨F, .refl _ _, S.drop, .adr _⟩
end
section
variable {X : Cx}
def pFrz (T : TCp) : TEp := fun ρ Q => T ρ fun c ρ' => Q c.froz ρ'
def pVal (T : TEp) : TCp := fun ρ Q => T ρ fun d ρ' => Q (.val d) ρ'
theorem ppe_frz {e : Expr} {t : TE} {T : TCp} (h : PPC X e t T) : PPE X e t (pFrz T) := ⟨h.pe, fun G F H σ ρ Q R S hT k => h.snd G F H σ ρ _ R S hT fun v c F' H' ρ' u S' q => by
  obtain ⟨F2, u2, S2, r2⟩ := S'.froz
  exact k v _ F2 H' ρ' (u.trans u2) S2 r2 q⟩
theorem ppc_val {e : Expr} {t : TE} {T : TEp} (h : PPE X e t T) : PPC X e t (pVal T) := ⟨h.pe, fun G F H σ ρ Q R S hT k => h.snd G F H σ ρ _ R S hT fun v d F' H' ρ' u S' r q => k v _ F' H' ρ' u (S'.pushVal r) q⟩
def pVar (i : Nat) : TEp := fun ρ Q => match ρ[i]? with
  | some (some (.val d)) => Q d ρ
  | some (some (.own _ xs)) => Q (.lst xs) (ρ.set i (some (.val (.lst xs))))
  | _ => False
theorem ppe_var (i : Nat) {x : Str} {pos : Pos} (hN : X.N[i]? = some x := by rfl) (hv : Vis X.env.scope x := by first | exact Or.inl rfl | exact Or.inr (Or.inl rfl) | exact Or.inr (Or.inr rfl)) (hd : (x == ("__debug__" : Str)) = false := by decide)
    (hcd : (x == ("__classdict__" : Str)) = false := by decide) : PPE X (.Name x pos) (tVar i) (pVar i) := ⟨pe_var hN hv hd hcd, fun G F H σ ρ Q R S hT k => by
  unfold pVar at hT
  split at hT
  · rename_i d e
    obtain ⟨v, h1, h2⟩ := S.val i d e
    exact ⟨v, h1, k v d F H ρ (.refl _ _) S h2 hT⟩
  · rename_i a xs e
    obtain ⟨F', u, r, S'⟩ := S.freeze e
    exact ⟨.ref a, (S.own i a xs e).1, k _ _ F' H _ u S' r hT⟩
  · exact hT.elim⟩
def pMove (i : Nat) : TCp := fun ρ Q => match ρ[i]? with
  | some (some (.val d)) => Q (.val d) ρ
  | some (some (.own a xs)) => Q (.own a xs) (ρ.set i none)
  | some (some (.box s)) => Q (.box s) (ρ.set i none)
  | _ => False
theorem ppc_move (i : Nat) {x : Str} {pos : Pos} (hN : X.N[i]? = some x := by rfl) (hv : Vis X.env.scope x := by first | exact Or.inl rfl | exact Or.inr (Or.inl rfl) | exact Or.inr (Or.inr rfl)) (hd : (x == ("__debug__" : Str)) = false := by decide)
    (hcd : (x == ("__classdict__" : Str)) = false := by decide) : PPC X (.Name x pos) (tVar i) (pMove i) := ⟨pe_var hN hv hd hcd, fun G F H σ ρ Q R S hT k => by
  unfold pMove at hT
  split at hT
  · rename_i d e
    obtain ⟨v, h1, h2⟩ := S.val i d e
    exact ⟨v, h1, k v _ F H ρ (.refl _ _) (S.pushVal h2) hT⟩
  · rename_i a xs e
    obtain ⟨h1, h2, h3, vs, h4, h5⟩ := S.own i a xs e
    refine ⟨.ref a, h1, k _ _ F H _ (.refl _ _) ((S.forget' i).pushOwn h4 h2 h3 ⟨fun j ys q => ?_, fun ⟨j, s, m1, m2⟩ => S.bx.bo i a xs e ⟨j, s, (set_box (by simp) m1).1, m2⟩⟩ h5) hT⟩
    by_cases hj : i = j
    · subst hj
      by_cases hi : i < ρ.length
      · rw [List.getElem?_set_self hi] at q; cases q
      · rw [List.getElem?_eq_none (by simpa using hi)] at q; cases q
    · rw [List.getElem?_set_ne hj] at q
      exact hj (S.ne _ _ _ _ _ e q)
  · rename_i s e
    obtain ⟨h1, h2, h3⟩ := S.bx.box i s e
    refine ⟨.ref s.root, h1, k _ _ F H _ (.refl _ _) ((S.forget' i).pushBox h2 h3 fun p m => ⟨fun j ys q => ?_, fun ⟨j, t, m1, m2⟩ => ?_⟩) hT⟩
    · exact S.bx.bo j p ys ((set_own q).elim (fun z => by cases z) id) ⟨i, s, e, m⟩
    · obtain ⟨q1, q2⟩ := set_box (by simp) m1
      exact q2 (S.bx.bb i j s t p e q1 m m2)
  · exact hT.elim⟩
def pC (d : D) : TEp := fun ρ Q => Q d ρ
theorem snd_c {K : PySem.W.Frag} {v : V} {d : D} (h : ∀ F, Rep K F v d) : SndE K (tC v) (pC d) := fun G F H σ ρ Q R S hT k => k v d F H ρ (.refl _ _) S (h F) hT
theorem ppe_int {i j pos} : PPE X (.Constant (.int i) j pos) (tC (.int i)) (pC (.int i)) := ⟨pe_int, snd_c fun _ => .int i⟩
theorem ppe_bl {b j pos} : PPE X (.Constant (.bool b) j pos) (tC (.bl b)) (pC (.bl b)) := ⟨pe_bl, snd_c fun _ => .bl b⟩
theorem ppe_non {j pos} : PPE X (.Constant .none j pos) (tC .non) (pC .non) := ⟨pe_non, snd_c fun _ => .non⟩
theorem ppe_str {x j pos} : PPE X (.Constant (.str x) j pos) (tC (.str x)) (pC (.str x)) := ⟨pe_str, snd_c fun _ => .str x⟩
abbrev F2 := D → D → (D → Prop) → Prop
abbrev F1 := D → (D → Prop) → Prop
def OpP (K : PySem.W.Frag) (r : R2) (f : F2) : Prop := ∀ (F H : Hp) (x y : V) (dx dy : D) (Q : D → Prop) (R : VK), Same F H → Rep K F x dx → Rep K F y dy → f dx dy Q →
  (∀ v d F' H', Res K F H v d F' H' → Q d → R v H') → r x y H R
def UnP (K : PySem.W.Frag) (r : V → Hp → VK → Prop) (f : F1) : Prop := ∀ (F H : Hp) (x : V) (dx : D) (Q : D → Prop) (R : VK), Same F H → Rep K F x dx → f dx Q →
  (∀ v d F' H', Res K F H v d F' H' → Q d → R v H') → r x H R
def CallP (K : PySem.W.Frag) (r : List V → Hp → VK → Prop) (f : List D → (D → Prop) → Prop) : Prop := ∀ (F H : Hp) (xs : List V) (ds : List D) (Q : D → Prop) (R : VK), Same F H → Reps K F xs ds → f ds Q →
  (∀ v d F' H', Res K F H v d F' H' → Q d → R v H') → r xs H R
def pOp (f : F2) (Ta Tb : TEp) : TEp := fun ρ Q => Ta ρ fun x ρ1 => Tb ρ1 fun y ρ2 => f x y fun z => Q z ρ2
def pUn (f : F1) (Ta : TEp) : TEp := fun ρ Q => Ta ρ fun x ρ1 => f x fun z => Q z ρ1
theorem snd_op {K : PySem.W.Frag} {r : R2} {f : F2} {ta tb : TE} {Ta Tb : TEp} (hp : OpP K r f) (ha : SndE K ta Ta) (hb : SndE K tb Tb) : SndE K (tOp r ta tb) (pOp f Ta Tb) := fun G F H σ ρ Q R S hT k =>
  ha G F H σ ρ _ _ S hT fun x dx F1 H1 ρ1 u1 S1 r1 h1 => hb G F1 H1 σ ρ1 _ _ S1 h1 fun y dy F2 H2 ρ2 u2 S2 r2 h2 =>
    hp F2 H2 x y dx dy _ _ S2.hF (r1.mono u2.ex) r2 h2 fun v d F3 H3 res q => by
      obtain ⟨u3, S3, r3⟩ := S2.res res
      exact k v d F3 H3 ρ2 ((u1.trans u2).trans u3) S3 r3 q
theorem snd_un {K : PySem.W.Frag} {r : V → Hp → VK → Prop} {f : F1} {ta : TE} {Ta : TEp} (hp : UnP K r f) (ha : SndE K ta Ta) : SndE K (tUn r ta) (pUn f Ta) := fun G F H σ ρ Q R S hT k =>
  ha G F H σ ρ _ _ S hT fun x dx F1 H1 ρ1 u1 S1 r1 h1 => hp F1 H1 x dx _ _ S1.hF r1 h1 fun v d F3 H3 res q => by
      obtain ⟨u3, S3, r3⟩ := S1.res res
      exact k v d F3 H3 ρ1 (u1.trans u3) S3 r3 q
variable {a b c : Expr} {ta tb tc : TE} {Ta Tb Tc : TEp} {pos : Pos}
theorem ppe_op {op : Operator} {r : R2} {f : F2} (ho : OpR X (binaryOp op) r) (hp : OpP X.K r f) (ha : PPE X a ta Ta) (hb : PPE X b tb Tb) : PPE X (.BinOp a op b pos) (tOp r ta tb) (pOp f Ta Tb) := ⟨pe_op ho ha.pe hb.pe, snd_op hp ha.snd hb.snd⟩
theorem ppe_un {op : UnaryOp} {r : V → Hp → VK → Prop} {f : F1} (ho : UnR X (unaryOp op) r) (hp : UnP X.K r f) (ha : PPE X a ta Ta) : PPE X (.UnaryOp op a pos) (tUn r ta) (pUn f Ta) := ⟨pe_un ho ha.pe, snd_un hp ha.snd⟩
theorem OpP.or {K : PySem.W.Frag} {r r' : R2} {f : F2} (h : ∀ (F H : Hp) (x y : V) (dx dy : D) (Q : D → Prop) (R : VK), Same F H → Rep K F x dx → Rep K F y dy → f dx dy Q →
  (∀ v d F' H', Res K F H v d F' H' → Q d → R v H') → r x y H R ∨ r' x y H R) : OpP K (fun x y H Q => r x y H Q ∨ r' x y H Q) f := h
def fAdd : F2 := fun x y Q => match x, y with
  | .int i, .int j => Q (.int (i + j))
  | .str i, .str j => i.length + j.length ≤ sizeLine ∧ Q (.str (i ++ j))
  | .lst xs, .lst ys => xs.length + ys.length ≤ sizeLine ∧ Q (.lst (xs ++ ys))
  | .tup xs, .tup ys => xs.length + ys.length ≤ sizeLine ∧ Q (.tup (xs ++ ys))
  | _, _ => False
def rAddA (K : PySem.W.Frag) : R2 := fun x y H Q => (rI0 (fun i j => .int (i + j)) x y H Q ∨ (∃ i j, x = .str i ∧ y = .str j ∧ i.length + j.length ≤ sizeLine ∧ Q (.str (i ++ j)) H)) ∨ (rCat x y H Q ∨ rCatA K x y H Q)
theorem opr_add : OpR X (binaryOp .Add) (rAddA X.K) := OpR.or (OpR.or op_add op_add_str) (OpR.or op_cat op_catA)
theorem opp_add : OpP X.K (rAddA X.K) fAdd := fun F H x y dx dy Q R hs rx ry hf k => by
  cases rx with
  | int i =>
    cases ry with
    | int j => exact .inl (.inl ⟨i, j, rfl, rfl, k _ _ _ _ (.old (.int _)) hf⟩)
    | _ => exact hf.elim
  | str i =>
    cases ry with
    | str j => exact .inl (.inr ⟨i, j, rfl, rfl, hf.1, k _ _ _ _ (.old (.str _)) hf.2⟩)
    | _ => exact hf.elim
  | lst h1 r1 =>
    cases ry with
    | lst h2 r2 =>
      refine .inr (.inl ⟨_, _, _, _, rfl, rfl, hs _ _ h1, hs _ _ h2, by rw [r1.length, r2.length]; exact hf.1, fun p hp => ?_⟩)
      have hn : F p = none := hs.free hp
      exact k _ _ _ _ (.new hp (.lst upd_same ((r1.mono (same_new hn)).append (r2.mono (same_new hn))))) hf.2
    | _ => exact hf.elim
  | @tup _ vs xs h1 r1 =>
    cases ry with
    | @tup _ ws ys h2 r2 =>
      refine .inr (.inr ⟨_, _, _, _, rfl, rfl, SqT.of (hs _ _ h1), SqT.of (hs _ _ h2), by rw [r1.length, r2.length]; exact hf.1, fun e => ?_, fun e e2 => ?_, fun e e2 p hp => ?_⟩)
      · have := r1.length; subst e; cases r1; exact k _ _ _ _ (.old (.tup h2 r2)) hf.2
      · subst e2; cases r2; refine k _ _ _ _ (.old (.tup h1 r1)) ?_; have := hf.2; simpa using this
      · have hn : F p = none := hs.free hp
        exact k _ _ _ _ (.new hp (.tup upd_same ((r1.mono (same_new hn)).append (r2.mono (same_new hn))))) hf.2
    | _ => exact hf.elim
  | non => exact hf.elim
  | bl _ => exact hf.elim
  | scr _ => exact hf.elim
  | adr _ => exact hf.elim
  | exc _ _ _ _ => exact hf.elim
def f2I (C : Int → Int → Prop) (g : Int → Int → D) : F2 := fun x y Q => match x, y with
  | .int i, .int j => C i j ∧ Q (g i j)
  | _, _ => False
def f2I0 (g : Int → Int → D) : F2 := fun x y Q => match x, y with
  | .int i, .int j => Q (g i j)
  | _, _ => False
theorem opp_I {C C' : Int → Int → Prop} {g : Int → Int → V} {g' : Int → Int → D} (hc : ∀ i j, C' i j → C i j) (h : ∀ F i j, Rep X.K F (g i j) (g' i j)) : OpP X.K (rI C g) (f2I C' g') := fun F H x y dx dy Q R hs rx ry hf k => by
  cases rx with
  | int i =>
    cases ry with
    | int j => exact ⟨i, j, rfl, rfl, hc _ _ hf.1, k _ _ _ _ (.old (h F i j)) hf.2⟩
    | _ => exact hf.elim
  | _ => exact hf.elim
theorem opp_I0 {g : Int → Int → V} {g' : Int → Int → D} (h : ∀ F i j, Rep X.K F (g i j) (g' i j)) : OpP X.K (rI0 g) (f2I0 g') := fun F H x y dx dy Q R hs rx ry hf k => by
  cases rx with
  | int i =>
    cases ry with
    | int j => exact ⟨i, j, rfl, rfl, k _ _ _ _ (.old (h F i j)) hf⟩
    | _ => exact hf.elim
  | _ => exact hf.elim
def fSub : F2 := f2I0 fun i j => .int (i - j)
def fMod : F2 := f2I (fun _ j => 0 < j) fun i j => .int (i % j)
def fDiv : F2 := f2I (fun _ j => 0 < j ∧ j < 2 ^ 64) fun i j => .int (i / j)
def fMulI : F2 := f2I CMul fun i j => .int (i * j)
theorem ppe_add (ha : PPE X a ta Ta) (hb : PPE X b tb Tb) : PPE X (.BinOp a .Add b pos) (tOp (rAddA X.K) ta tb) (pOp fAdd Ta Tb) := ppe_op opr_add opp_add ha hb
theorem ppe_sub (ha : PPE X a ta Ta) (hb : PPE X b tb Tb) : PPE X (.BinOp a .Sub b pos) (tOp (rI0 fun i j => .int (i - j)) ta tb) (pOp fSub Ta Tb) := ppe_op op_sub (opp_I0 fun _ _ _ => .int _) ha hb
theorem ppe_mul (ha : PPE X a ta Ta) (hb : PPE X b tb Tb) : PPE X (.BinOp a .Mult b pos) (tOp (rI CMul fun i j => .int (i * j)) ta tb) (pOp fMulI Ta Tb) := ppe_op op_mul (opp_I (fun _ _ h => h) fun _ _ _ => .int _) ha hb
theorem ppe_mod (ha : PPE X a ta Ta) (hb : PPE X b tb Tb) : PPE X (.BinOp a .Mod b pos) (tOp (rI (fun _ j => 0 < j) fun i j => .int (i % j)) ta tb) (pOp fMod Ta Tb) := ppe_op op_mod (opp_I (fun _ _ h => h) fun _ _ _ => .int _) ha hb
theorem ppe_div (ha : PPE X a ta Ta) (hb : PPE X b tb Tb) : PPE X (.BinOp a .FloorDiv b pos) (tOp (rI CDivW fun i j => .int (i / j)) ta tb) (pOp fDiv Ta Tb) :=
  ppe_op op_fdivW (opp_I (fun _ _ h => wide_div (b := 64) h.1 (by have := h.1; have := h.2; omega) (by decide) (by decide)) fun _ _ _ => .int _) ha hb
theorem ppe_powc {i j : Int} {u v pa pb} (n : Int) (h : 0 ≤ j ∧ j ≤ 1000000 ∧ i.natAbs < 2 ^ 64 := by decide) (hn : i ^ j.toNat = n := by decide) : PPE X (.BinOp (.Constant (.int i) u pa) .Pow (.Constant (.int j) v pb) pos) (tOp (rI CPow fun i j => .int (i ^ j.toNat)) (tC (.int i)) (tC (.int j))) (pC (.int n)) :=
  ⟨pe_op op_pow pe_int pe_int, fun G F H σ ρ Q R S hT k => ⟨i, j, rfl, rfl, h, by show R (V.int (i ^ j.toNat)) H; rw [hn]; exact k _ _ F H ρ (.refl _ _) S (.int n) hT⟩⟩
def fRep : F2 := fun x y Q => match x, y with
  | .lst xs, .int k => 0 ≤ k ∧ k ≤ 1000 ∧ xs.length ≤ 1000 ∧ Q (.lst (List.replicate k.toNat xs).flatten)
  | _, _ => False
theorem Reps.rep {K : PySem.W.Frag} {F : Hp} {vs : List V} {ds : List D} (h : Reps K F vs ds) : ∀ n : Nat, Reps K F (List.replicate n vs).flatten (List.replicate n ds).flatten
  | 0 => .nil
  | n + 1 => by
    rw [List.replicate_succ, List.replicate_succ, List.flatten_cons, List.flatten_cons]
    exact h.append (Reps.rep h n)
theorem ppe_rep (ha : PPE X a ta Ta) (hb : PPE X b tb Tb) : PPE X (.BinOp a .Mult b pos) (tOp rRep ta tb) (pOp fRep Ta Tb) := ppe_op op_rep (fun F H x y dx dy Q R hs rx ry hf k => by
  cases rx with
  | @lst a vs xs h1 r1 =>
    cases ry with
    | int n =>
      obtain ⟨f1, f2, f3, f4⟩ := hf
      refine ⟨_, _, _, rfl, rfl, hs _ _ h1, by omega, by omega, ?_, fun p hp => ?_⟩
      · have e1 : vs.length ≤ 1000 := by rw [r1.length]; exact f3
        have e2 : n.toNat ≤ 1000 := by omega
        exact Nat.le_trans (Nat.mul_le_mul e1 e2) (by decide)
      · have hn : F p = none := hs.free hp
        exact k _ _ _ _ (.new hp (.lst upd_same ((r1.mono (same_new hn)).rep n.toNat))) f4
    | _ => exact hf.elim
  | _ => exact hf.elim) ha hb
def fNeg : F1 := fun x Q => match x with
  | .int i => Q (.int (-i))
  | _ => False
theorem ppe_neg (ha : PPE X a ta Ta) : PPE X (.UnaryOp .USub a pos) (tUn (rU fun i => .int (-i)) ta) (pUn fNeg Ta) := ppe_un un_neg (fun F H x dx Q R hs rx hf k => by
  cases rx with
  | int i => exact ⟨i, rfl, k _ _ _ _ (.old (.int _)) hf⟩
  | _ => exact hf.elim) ha
mutual
def toPy : D → PyData
  | .non => .none
  | .bl b => .bool b
  | .int i => .int i
  | .str x => .str x
  | .lst xs => .list (toPys xs)
  | .tup xs => .tuple (toPys xs)
  | .scr ns => .list (ns.map PyData.int)
  | .adr _ => .dict []
  | .exc _ _ => .dict []
def toPys : List D → List PyData
  | [] => []
  | x :: xs => toPy x :: toPys xs
end
theorem dp_ints {K : PySem.W.Frag} {H : Hp} : ∀ ns : List Int, DpAll K H (ns.map V.int) (ns.map PyData.int)
  | [] => .nil
  | n :: ns => .cons (.int n) (dp_ints ns)
mutual
theorem Rep.dp0 {K : PySem.W.Frag} {F H : Hp} (e : Same F H) : ∀ {v : V} {d : D}, Rep K F v d → PyData.canLay0 (toPy d) = true → Dp K H v (toPy d)
  | _, _, .non, _ => by rw [toPy]; exact .non
  | _, _, .bl b, _ => by rw [toPy]; exact .bl b
  | _, _, .int i, _ => by rw [toPy]; exact .int i
  | _, _, .str x, _ => by rw [toPy]; exact .str x
  | _, _, .lst h r, c => by
    rw [toPy] at c ⊢
    rw [PyData.canLay0] at c
    exact .lst (SqL.of (e _ _ h)) (Reps.dp0 e r c)
  | _, _, .tup h r, c => by
    rw [toPy] at c ⊢
    rw [PyData.canLay0] at c
    exact .tup (SqT.of (e _ _ h)) (Reps.dp0 e r c)
  | _, _, .scr h, _ => by rw [toPy]; exact .lst (e.seq h) (dp_ints _)
  | _, _, .adr _, c => by rw [toPy, PyData.canLay0] at c; cases c
  | _, _, .exc _ _ _ _, c => by rw [toPy, PyData.canLay0] at c; cases c
theorem Reps.dp0 {K : PySem.W.Frag} {F H : Hp} (e : Same F H) : ∀ {vs : List V} {ds : List D}, Reps K F vs ds → PyData.canLayAll0 (toPys ds) = true → DpAll K H vs (toPys ds)
  | _, _, .nil, _ => by rw [toPys]; exact .nil
  | _, _, .cons h r, c => by
    rw [toPys] at c ⊢
    rw [PyData.canLayAll0, Bool.and_eq_true] at c
    exact .cons (Rep.dp0 e h c.1) (Reps.dp0 e r c.2)
end
theorem shaped_lay {d : PyData} (h : SeqAt.shaped d = true) : PyData.canLay0 d = true := by
  unfold SeqAt.shaped at h
  rw [Bool.and_eq_true] at h
  exact h.1
theorem Rep.dp {K : PySem.W.Frag} {F H : Hp} (e : Same F H) {v : V} {d : D} (r : Rep K F v d) (h : SeqAt.shaped (toPy d) = true) : Dp K H v (toPy d) := r.dp0 e (shaped_lay h)
def D.eqv (x y : D) : Bool := PyData.eqv (toPy x) (toPy y)
def D.sh (x : D) : Prop := SeqAt.shaped (toPy x) = true
def fEq : F2 := fun x y Q => x.sh ∧ y.sh ∧ Q (.bl (x.eqv y))
def fNe : F2 := fun x y Q => x.sh ∧ y.sh ∧ Q (.bl (!x.eqv y))
theorem opp_eq : OpP X.K (rEqD X.K) fEq := fun F H x y dx dy Q R hs rx ry hf k => ⟨_, _, rx.dp hs hf.1, ry.dp hs hf.2.1, hf.1, hf.2.1, k _ _ _ _ (.old (.bl _)) hf.2.2⟩
theorem opp_ne : OpP X.K (rNeD X.K) fNe := fun F H x y dx dy Q R hs rx ry hf k => ⟨_, _, rx.dp hs hf.1, ry.dp hs hf.2.1, hf.1, hf.2.1, k _ _ _ _ (.old (.bl _)) hf.2.2⟩
def fLt : F2 := f2I0 fun i j => .bl (decide (i < j))
def fLe : F2 := f2I0 fun i j => .bl (decide (i ≤ j))
def fGt : F2 := f2I0 fun i j => .bl (decide (j < i))
def fGe : F2 := f2I0 fun i j => .bl (decide (j ≤ i))
def D.isNon : D → Bool
  | .non => true
  | _ => false
def fIsN : F2 := fun x y Q => match y with | .non => Q (.bl x.isNon) | _ => False
theorem ite_t {A B : Prop} (h : if true = true then A else B) : A := by simpa using h
theorem ite_f {A B : Prop} (h : if false = true then A else B) : B := by simpa using h
theorem ite_ti {A B : Prop} (h : A) : if true = true then A else B := by simpa using h
theorem ite_fi {A B : Prop} (h : B) : if false = true then A else B := by simpa using h
structure Cmp (X : Cx) (op : CmpOp) (r : R2) (f : F2) : Prop where
  op : OpR X (compareOp op) r
  pp : OpP X.K r f
theorem cm_lt : Cmp X .Lt (rI0 fun i j => .bl (decide (i < j))) fLt := ⟨op_lt, opp_I0 fun _ _ _ => .bl _⟩
theorem cm_le : Cmp X .LtE (rI0 fun i j => .bl (decide (i ≤ j))) fLe := ⟨op_le, opp_I0 fun _ _ _ => .bl _⟩
theorem cm_gt : Cmp X .Gt (rI0 fun i j => .bl (decide (j < i))) fGt := ⟨op_gt, opp_I0 fun _ _ _ => .bl _⟩
theorem cm_ge : Cmp X .GtE (rI0 fun i j => .bl (decide (j ≤ i))) fGe := ⟨op_ge, opp_I0 fun _ _ _ => .bl _⟩
theorem cm_eq (hu : X.A.units + 64 < cLine) : Cmp X .Eq (rEqD X.K) fEq := ⟨op_eqD hu, opp_eq⟩
theorem cm_ne (hu : X.A.units + 64 < cLine) : Cmp X .NotEq (rNeD X.K) fNe := ⟨op_neD hu, opp_ne⟩
theorem dec_non {K : PySem.W.Frag} {F : Hp} {v : V} {d : D} (r : Rep K F v d) : decide (v = .non) = d.isNon := by
  cases r <;> rfl
theorem cm_isN : Cmp X .Is (fun x y H Q => y = .non ∧ Q (.bl (decide (x = .non))) H) fIsN := ⟨op_isN, fun F H x y dx dy Q R hs rx ry hf k => by
  cases ry with
  | non => exact ⟨rfl, by rw [dec_non rx]; exact k _ _ _ _ (.old (.bl _)) hf⟩
  | _ => exact hf.elim⟩
theorem ppe_cmp {op : CmpOp} {r : R2} {f : F2} (hc : Cmp X op r f) (ha : PPE X a ta Ta) (hb : PPE X b tb Tb) (hm : behindInMarks op b = false) : PPE X (.Compare a [op] [b] pos) (tOp r ta tb) (pOp f Ta Tb) := ⟨pe_cmpR hc.op ha.pe hb.pe hm, snd_op hc.pp ha.snd hb.snd⟩
def pTest (T : TEp) : TTp := fun ρ Q => T ρ fun x ρ' => match x with | .bl k => Q k ρ' | _ => False
theorem snd_test {K : PySem.W.Frag} {t : TE} {T : TEp} (h : SndE K t T) : SndT K (tTest t) (pTest T) := fun G F H σ ρ Q R S hT k => h G F H σ ρ _ _ S hT fun v d F' H' ρ' u S' r q => by
  cases r with
  | bl b => exact ⟨b, rfl, k b F' H' ρ' u S' q⟩
  | _ => exact q.elim
theorem ppt_cmp {op : CmpOp} {r : R2} {f : F2} (hc : Cmp X op r f) (ha : PPE X a ta Ta) (hb : PPE X b tb Tb) (hm : behindInMarks op b = false) : PPT X (.Compare a [op] [b] pos) (tTest (tOp r ta tb)) (pTest (pOp f Ta Tb)) := ⟨pt_cmpR hc.op ha.pe hb.pe hm, snd_test (snd_op hc.pp ha.snd hb.snd)⟩
theorem ppt_val {e : Expr} {t : TE} {T : TEp} (h : PPE X e t T) (he : ∀ whole, isTrue e X.env whole = (do let v ← whole; standAt e.pos; holding [v] (truthy v)) := by intro _; rfl) : PPT X e (tB t) (pTest T) := ⟨pt_val h.pe he, snd_test h.snd⟩
variable {tA tB' : TT} {TA' TB' : TTp} {rest : List Expr}
def pOr (T U : TTp) : TTp := fun ρ Q => T ρ fun c ρ1 => if c = true then Q true ρ1 else U ρ1 Q
def pNot (T : TTp) : TTp := fun ρ Q => T ρ fun c ρ1 => Q (!c) ρ1
theorem ppw_or1 (ha : PPT X a tA TA') : PPW X (.BoolOp .Or [a] pos) tA TA' := ⟨pw_or1 ha.pt, ha.snd⟩
theorem ppw_or (ha : PPT X a tA TA') (hb : PPW X (.BoolOp .Or (b :: rest) pos) tB' TB') : PPW X (.BoolOp .Or (a :: b :: rest) pos) (tOr tA tB') (pOr TA' TB') := ⟨pw_or ha.pt hb.pw, fun G F H σ ρ Q R S hT k =>
  ha.snd G F H σ ρ _ _ S hT fun c F1 H1 ρ1 u1 S1 h1 => by
    cases c with
    | false => have h1 := ite_f h1; refine ite_fi ?_; exact hb.snd G F1 H1 σ ρ1 _ _ S1 h1 fun b F2 H2 ρ2 u2 S2 h2 => k b F2 H2 ρ2 (u1.trans u2) S2 h2
    | true => have h1 := ite_t h1; refine ite_ti ?_; exact k _ F1 H1 ρ1 u1 S1 h1⟩
theorem PPW.ppt {e : Expr} {t : TT} {T : TTp} (h : PPW X e t T) : PPT X e t T := ⟨h.pw.pt, h.snd⟩
theorem ppt_not (ha : PPT X a tA TA') : PPT X (.UnaryOp .Not a pos) (tNot tA) (pNot TA') := ⟨pt_not ha.pt, fun G F H σ ρ Q R S hT k => ha.snd G F H σ ρ _ _ S hT fun c F1 H1 ρ1 u1 S1 h1 => k _ F1 H1 ρ1 u1 S1 h1⟩
def pAndV (Ta Tb : TEp) : TEp := fun ρ Q => Ta ρ fun x ρ1 => match x with | .bl c => if c = true then Tb ρ1 Q else Q (.bl false) ρ1 | _ => False
def pNotV (Ta : TEp) : TEp := fun ρ Q => Ta ρ fun x ρ1 => match x with | .bl c => Q (.bl (!c)) ρ1 | _ => False
theorem ppe_one {op} (h : PPE X a ta Ta) : PPE X (.BoolOp op [a] pos) ta Ta := ⟨pe_one h.pe, h.snd⟩
theorem ppe_and (ha : PPE X a ta Ta) (hb : PPE X (.BoolOp .And (b :: rest) pos) tb Tb) : PPE X (.BoolOp .And (a :: b :: rest) pos) (tAndV ta tb) (pAndV Ta Tb) := ⟨pe_and ha.pe hb.pe, fun G F H σ ρ Q R S hT k =>
  ha.snd G F H σ ρ _ _ S hT fun x dx F1 H1 ρ1 u1 S1 r1 h1 => by
    cases r1 with
    | bl c =>
      refine ⟨c, rfl, ?_⟩
      cases c with
      | true => have h1 := ite_t h1; refine ite_ti ?_; exact hb.snd G F1 H1 σ ρ1 _ _ S1 h1 fun v d F2 H2 ρ2 u2 S2 r2 h2 => k v d F2 H2 ρ2 (u1.trans u2) S2 r2 h2
      | false => have h1 := ite_f h1; refine ite_fi ?_; exact k _ _ F1 H1 ρ1 u1 S1 (.bl _) h1
    | _ => exact h1.elim⟩
theorem ppe_not (ha : PPE X a ta Ta) : PPE X (.UnaryOp .Not a pos) (tNotV ta) (pNotV Ta) := ⟨pe_not ha.pe, fun G F H σ ρ Q R S hT k =>
  ha.snd G F H σ ρ _ _ S hT fun x dx F1 H1 ρ1 u1 S1 r1 h1 => by
    cases r1 with
    | bl c => exact ⟨c, rfl, k _ _ F1 H1 ρ1 u1 S1 (.bl _) h1⟩
    | _ => exact h1.elim⟩
variable {e : Expr} {es : List Expr} {te : TE} {Te : TEp} {t : TA} {T : TAp}
def pNil : TAp := fun ρ Q => Q [] ρ
def pCons (Ta : TEp) (Tr : TAp) : TAp := fun ρ Q => Ta ρ fun x ρ1 => Tr ρ1 fun xs ρ2 => Q (x :: xs) ρ2
theorem ppa_nil : PPA X [] tNil pNil := ⟨pa_nil, fun G F H σ ρ Q R S hT k => k _ _ F H ρ (.refl _ _) S .nil hT⟩
theorem ppa_cons (ha : PPE X e te Te) (hr : PPA X es t T) (hs : starEach (e :: es) X.env = (false, eval e X.env) :: starEach es X.env := by rfl) : PPA X (e :: es) (tCons te t) (pCons Te T) := ⟨pa_cons ha.pe hr.pa hs, fun G F H σ ρ Q R S hT k =>
  ha.snd G F H σ ρ _ _ S hT fun v d F1 H1 ρ1 u1 S1 r1 h1 => hr.snd G F1 H1 σ ρ1 _ _ S1 h1 fun vs ds F2 H2 ρ2 u2 S2 r2 h2 => k _ _ F2 H2 ρ2 (u1.trans u2) S2 (.cons (r1.mono u2.ex) r2) h2⟩
def pTup (T : TAp) : TEp := fun ρ Q => T ρ fun xs ρ1 => xs.length ≤ sizeLine ∧ Q (.tup xs) ρ1
theorem ppe_tup {x1} (h : PPA X es t T) : PPE X (.Tuple es x1 pos) (tTup t) (pTup T) := ⟨pe_tup h.pa, fun G F H σ ρ Q R S hT k =>
  h.snd G F H σ ρ _ _ S hT fun vs ds F1 H1 ρ1 u1 S1 r1 h1 => ⟨by rw [r1.length]; exact h1.1, fun p hp => k _ _ _ _ ρ1 (u1.trans (S1.upNew hp)) (S1.new hp) (.tup upd_same (r1.mono (same_new (S1.freshF hp)))) h1.2⟩⟩
def pLst (T : TAp) : TEp := fun ρ Q => T ρ fun xs ρ1 => xs.length ≤ sizeLine ∧ Q (.lst xs) ρ1
theorem ppe_lst (h : PPA X es t T) : PPE X (.List es pos) (tLst t) (pLst T) := ⟨pe_lst h.pa, fun G F H σ ρ Q R S hT k =>
  h.snd G F H σ ρ _ _ S hT fun vs ds F1 H1 ρ1 u1 S1 r1 h1 => ⟨by rw [r1.length]; exact h1.1, fun p hp => k _ _ _ _ ρ1 (u1.trans (S1.upNew hp)) (S1.new hp) (.lst upd_same (r1.mono (same_new (S1.freshF hp)))) h1.2⟩⟩
def pLstO (T : TAp) : TCp := fun ρ Q => T ρ fun xs ρ1 => xs.length ≤ sizeLine ∧ ∀ a, Q (.own a xs) ρ1
theorem Sim.newOwn {K : PySem.W.Frag} {G F H : Hp} {σ : L2.St} {ρ : Ro} (S : Sim K G F H σ ρ) {p : Addr} {vs : List V} {xs : List D} (h : H p = none) (r : Reps K F vs xs) : Sim K G F (upd H p (.lst vs)) (σ ++ [some (.ref p)]) (ρ ++ [some (.own p xs)]) :=
  (S.more h).pushOwn upd_same (S.freshF h) (S.freshG h) (S.notOwn h) r
theorem ppc_lst (h : PPA X es t T) : PPC X (.List es pos) (tLst t) (pLstO T) := ⟨pe_lst h.pa, fun G F H σ ρ Q R S hT k =>
  h.snd G F H σ ρ _ _ S hT fun vs ds F1 H1 ρ1 u1 S1 r1 h1 => ⟨by rw [r1.length]; exact h1.1, fun p hp => k _ _ _ _ ρ1 u1 (S1.newOwn hp r1) (h1.2 p)⟩⟩
def pCB (f : List D → (D → Prop) → Prop) (T : TAp) : TEp := fun ρ Q => T ρ fun xs ρ1 => f xs fun z => Q z ρ1
theorem snd_cb {K : PySem.W.Frag} {r : List V → Hp → VK → Prop} {f : List D → (D → Prop) → Prop} (hp : CallP K r f) (h : SndA K t T) : SndE K (tCB r t) (pCB f T) := fun G F H σ ρ Q R S hT k =>
  h G F H σ ρ _ _ S hT fun vs ds F1 H1 ρ1 u1 S1 r1 h1 => hp F1 H1 vs ds _ _ S1.hF r1 h1 fun v d F2 H2 res q => by
    obtain ⟨u2, S2, r2⟩ := S1.res res
    exact k v d F2 H2 ρ1 (u1.trans u2) S2 r2 q
theorem ppe_callB {x : Str} {p : Pos} {id : String} {r : List V → Hp → VK → Prop} {f : List D → (D → Prop) → Prop} (hc : CallR X (.builtin id) r) (hp : CallP X.K r f) (hg : Gl X x) (hm : X.mg x = none) (hv : bootBuiltins x = some (.builtin id)) (ha : PPA X (e :: es) t T)
    (hn : x ≠ "__name__" := by decide) (hdb : (x == ("__debug__" : Str)) = false := by decide)
    (he : starEach (e :: es) X.env = (false, eval e X.env) :: starEach es X.env := by rfl) (hpl : (backTo pos (starEach es X.env)).any (·.1) = false := by rfl) : PPE X (.Call (.Name x p) (e :: es) [] pos) (tCB r t) (pCB f T) := ⟨pe_callB hc hg hm hv ha.pa hn hdb he hpl, snd_cb hp ha.snd⟩
theorem ppe_callTy {x : Str} {p : Pos} {id : String} {r : List V → Hp → VK → Prop} {f : List D → (D → Prop) → Prop} (hc : CallR X (.type id) r) (hp : CallP X.K r f) (hg : Gl X x) (hm : X.mg x = none) (hv : bootBuiltins x = some (.type id)) (ha : PPA X (e :: es) t T)
    (hn : x ≠ "__name__" := by decide) (hdb : (x == ("__debug__" : Str)) = false := by decide)
    (he : starEach (e :: es) X.env = (false, eval e X.env) :: starEach es X.env := by rfl) (hpl : (backTo pos (starEach es X.env)).any (·.1) = false := by rfl) : PPE X (.Call (.Name x p) (e :: es) [] pos) (tCB r t) (pCB f T) := ⟨pe_callTy hc hg hm hv ha.pa hn hdb he hpl, snd_cb hp ha.snd⟩
end
end Pl
namespace Pl
open PySem PySem.Spec PyProof.Rows L2
open PySem.W (AlikeAll minD maxD minD_ints maxD_ints min_list_data min_tuple_data max_list_data max_tuple_data min_list_default max_list_default)
theorem places_rev (n : Nat) : Builtin.Slice.slicePlaces ((n : Int) - 1) (-1) (-1) = n := by
  unfold Builtin.Slice.slicePlaces
  by_cases h : n = 0
  · subst h; rfl
  · first
    | (simp; omega)
    | (simp only [show ¬ ((-1 : Int) > 0) by decide, if_false]; split <;> omega)
theorem adjust_rev (n : Nat) : Builtin.Slice.sliceAdjust none none (-1) (n : Int) = ((n : Int) - 1, -1) := by
  first
  | rfl
  | simp [Builtin.Slice.sliceAdjust]
theorem pick_rev (xs : Array Value) : ((List.range xs.size).filterMap fun (m : Nat) => xs[(((xs.size : Int) - 1) + (m : Int) * (-1)).toNat]?).toArray = xs.toList.reverse.toArray := by
  have e : ((List.range xs.size).filterMap fun (m : Nat) => xs[(((xs.size : Int) - 1) + (m : Int) * (-1)).toNat]?) = ((List.range xs.size).map fun k => xs.size - 1 - k).filterMap (xs[·]?) := by
    rw [List.filterMap_map]
    have g : ∀ l : List Nat, (l.filterMap fun (m : Nat) => xs[(((xs.size : Int) - 1) + (m : Int) * (-1)).toNat]?) = l.filterMap ((fun x => xs[x]?) ∘ fun k => xs.size - 1 - k) := fun l => by
      congr 1
      funext m
      show xs[(((xs.size : Int) - 1) + (m : Int) * (-1)).toNat]? = xs[xs.size - 1 - m]?
      rw [show (((xs.size : Int) - 1) + (m : Int) * (-1)).toNat = xs.size - 1 - m by omega]
    exact g _
  rw [e, PySem.W.krv_range, List.filterMap_reverse, PySem.W.krv_all]
section
variable {prog : Program} {w : World} {A : Around} {E : Value → Shared → Prop} {s : Shared}
theorem getItem_tuple_rev {t sl : Addr} {items : Array Value} {vl vu vs : Value} {Q : Value → Shared → Prop} (ht : IsTup s.heap t items) (hs : s.heap.IsSliceOf sl vl vu vs) (pl : IsPart vl none) (pu : IsPart vu none) (ps : IsPart vs (some (-1)))
    (h : Q (.ref s.heap.objs.size) { s with heap := s.heap.push { cls := .type "tuple", data := .seq items.toList.reverse.toArray } })
    (hsz : items.size ≤ sizeLine) : wpAny (model prog w) A (getItem (.ref t) (.ref sl)) Q E s := by
  have htake : sizeOk (.seq items.toList.reverse.toArray) := by
    show items.toList.reverse.toArray.size ≤ sizeLine
    rw [List.size_toArray, List.length_reverse, Array.length_toList]
    omega
  obtain ⟨os, hos, hcs, hds⟩ := id hs
  have hTs : s.TypeIs (.ref sl) "slice" := ⟨os, hos, hcs⟩
  unfold getItem
  try with_reducible refine wpAny_holding ?_
  first | refine wpAny_bind (wpAny_pure ?_) | skip
  refine wpAny_bind (wpAny_sequenceKey ht.typeIs (by decide) ?_)
  refine wpAny_bind (wpAny_callSpecial?_slot (name := Str.ofString "__getitem__") ht.typeIs PyProof.Rows.slot_tuple_getitem
    (wpAny_call_entry PyProof.Rows.slot_tuple_getitem ht.typeIs entry_tuple_getitem ?_ (args_tuple_getitem _ _)))
  show wpAny _ _ (Builtin.Tuple.tupleItemsOf (.ref t) >>= _) _ _ s
  refine wpAny_bind (tupleItemsOf_ ht ?_)
  refine wpAny_bind (wpAny_typeOf hTs ?_)
  rw [if_pos (by decide)]
  have applied : ∀ {Q : Int × Int × Nat → Shared → Prop} {A' : Around} {E' : Value → Shared → Prop}, Q ((items.size : Int) - 1, -1, items.size) s → wpAny (model prog w) A' (Builtin.Slice.sliceApplied (.ref sl) (pure (items.size : Int))) Q E' s := by
    intro Q A' E' h
    unfold Builtin.Slice.sliceApplied Builtin.Slice.sliceFields
    refine wpAny_bind (wpAny_bind (wpAny_field hos hds (x := vl) rfl (wpAny_bind (wpAny_field hos hds (x := vu) rfl (wpAny_bind (wpAny_field hos hds (x := vs) rfl (wpAny_pure ?_)))))))
    refine wpAny_bind (HT.slicePart_ ps ?_)
    show wpAny _ _ (if ((-1 : Int) == 0) = true then _ else _) _ _ s
    rw [if_neg (by decide)]
    refine wpAny_bind (HT.slicePart_ pl (wpAny_bind (HT.slicePart_ pu (wpAny_bind (wpAny_pure ?_)))))
    show wpAny _ _ (match Builtin.Slice.sliceAdjust none none (-1) (items.size : Int) with | (lo, hi) => pure (lo, (-1 : Int), Builtin.Slice.slicePlaces lo hi (-1))) _ _ s
    rw [adjust_rev]
    show wpAny _ _ (pure ((items.size : Int) - 1, (-1 : Int), Builtin.Slice.slicePlaces ((items.size : Int) - 1) (-1) (-1))) _ _ s
    rw [places_rev]
    exact wpAny_pure h
  refine wpAny_bind (applied ?_)
  have hno : ¬ ((((items.size : Int) - 1) == 0 && (-1 : Int) == 1 && items.size == items.size) = true) := by
    intro q
    rw [Bool.and_eq_true, Bool.and_eq_true] at q
    exact absurd q.1.2 (by decide)
  show wpAny _ _ (if (((items.size : Int) - 1) == 0 && (-1 : Int) == 1 && items.size == items.size) = true then _ else _) _ _ s
  rw [if_neg hno, pick_rev]
  first
    | exact wpAny_bind (m := Builtin.Tuple.tupleExact _) (wpAny_newObj_type (wpAny_pure ⟨_, rfl, wpAny_pure h⟩) htake)
    | exact wpAny_bind (m := Builtin.Tuple.tupleExact _) (wpAny_newObj_type (wpAny_bind (wpAny_pure (wpAny_pure ⟨_, rfl, wpAny_pure h⟩))) htake)
    | exact wpAny_bind (wpAny_bind (m := Builtin.Tuple.tupleExact _) (wpAny_newObj_type (wpAny_pure (wpAny_pure ⟨_, rfl, wpAny_pure h⟩)) htake))
    | exact wpAny_bind (wpAny_bind (m := Builtin.Tuple.tupleExact _) (wpAny_newObj_type (wpAny_pure ⟨_, rfl, wpAny_pure h⟩) htake))
end
section
variable {X : Cx}
def tRevA (K : PySem.W.Frag) (te : TE) : TE := fun σ H Q => te σ H fun x H1 => ∃ a xs, x = .ref a ∧ ((SqL K H1 a xs ∧ ∀ p, H1 p = none → Q (.ref p) (upd H1 p (.lst xs.reverse))) ∨ (SqT K H1 a xs ∧ ∀ p, H1 p = none → Q (.ref p) (upd H1 p (.tup xs.reverse))))
theorem pe_revA {e : Expr} {te : TE} {k : Nat} {p1 p2 p3 pos : Pos} (he : PE X e te) : PE X (.Subscript e (.Slice none none (some (.UnaryOp .USub (.Constant (.int 1) k p1) p2)) p3) pos) (tRevA X.K te) := by
  refine ⟨fun pins s σ H Q I h => ?_⟩
  refine Subscript_ (thn (he.run pins s σ H _ I h) fun v s1 ⟨x, H1, I1, r1, q1⟩ => ?_)
  obtain ⟨a, xs, ex, hx⟩ := q1
  subst ex
  cases r1
  have hst : PO X (some (.UnaryOp .USub (.Constant (.int 1) k p1) p2)) (tPart (tUn (rU fun i => .int (-i)) (tC (.int 1)))) := po_some (pe_un un_neg pe_int)
  refine wpAny_Slice (thn (po_none.run pins s1 σ H1 (fun o H2 => o = none ∧ H2 = H1) I1 ⟨rfl, rfl⟩) fun vl s2 ⟨l, H2, I2, pl, el, e2⟩ => ?_)
  subst el e2
  refine thn (po_none.run pins s2 σ H2 (fun o H3 => o = none ∧ H3 = H2) I2 ⟨rfl, rfl⟩) fun vu s3 ⟨u, H3, I3, pu, eu, e3⟩ => ?_
  subst eu e3
  refine thn (hst.run pins s3 σ H3 (fun o H4 => o = some (-1) ∧ H4 = H3) I3 ⟨1, rfl, -1, rfl, rfl, rfl⟩) fun vs s4 ⟨o, H4, I4, ps, eo, e4⟩ => ?_
  subst eo e4
  have I5 : Inv X pins σ H4 { s4 with heap := s4.heap.push { cls := .type "slice", data := .fields #[vl, vu, vs] } } := I4.kept (t' := s4.toks) fun b ob q => Heap.get?_push_of_some _ q
  show wpAny (model X.prog X.w) X.A (subscriptTail e (.Slice none none (some (.UnaryOp .USub (.Constant (.int 1) k p1) p2)) p3) (.ref a) (.ref s4.heap.objs.size)) (EP X pins σ Q) X.xe { s4 with heap := s4.heap.push { cls := .type "slice", data := .fields #[vl, vu, vs] } }
  rcases hx with ⟨hx, q⟩ | ⟨hx, q⟩
  · obtain ⟨its, r, ht, hz⟩ := I5.list hx
    have hlen := r.length
    refine tail_any (ops := [.ref a, .ref s4.heap.objs.size]) ht.isList.typeIs (PySem.slot_list_getitem.lookup) ?_ (by with_unfolding_all rfl)
    refine wpAny_getItem_list_slice ht.isList (Heap.IsSliceOf.new _ vl vu vs) pl pu ps (by decide) ?_ (by rw [List.size_toArray]; omega)
    rw [PySem.W.krv_pick]
    refine ⟨.ref _, _, I5.laid (t' := s4.toks) (o := .lst xs.reverse) (fun b ob q => Heap.get?_push_of_some _ q) (Nat.le_refl _) ?_, rfl, q _ (I5.hok.fresh (Nat.le_refl _))⟩
    exact ⟨by rw [List.length_reverse]; exact hz, _, 0, r.reverse, Heap.get?_push_size _ rfl⟩
  · obtain ⟨its, r, ht, hz⟩ := I5.tuple hx
    have hlen := r.length
    refine tail_any (ops := [.ref a, .ref s4.heap.objs.size]) ht.typeIs (PyProof.Rows.slot_tuple_getitem.lookup) ?_ (by with_unfolding_all rfl)
    refine getItem_tuple_rev ht (Heap.IsSliceOf.new _ vl vu vs) pl pu ps ?_ (by rw [List.size_toArray]; omega)
    refine ⟨.ref _, _, I5.laid (t' := s4.toks) (o := .tup xs.reverse) (fun b ob q => Heap.get?_push_of_some _ q) (Nat.le_refl _) ?_, rfl, q _ (I5.hok.fresh (Nat.le_refl _))⟩
    exact ⟨by rw [List.length_reverse]; exact hz, _, r.reverse, ⟨_, Heap.get?_push_size _ rfl, rfl, _, rfl⟩⟩
theorem alike_ints (ns : List Int) : AlikeAll (ns.map PyData.int) := ⟨fun x hx y hy => by
  obtain ⟨i, _, rfl⟩ := List.mem_map.mp hx
  obtain ⟨j, _, rfl⟩ := List.mem_map.mp hy
  rfl, fun x hx => by
  obtain ⟨i, _, rfl⟩ := List.mem_map.mp hx
  simp⟩
theorem depth_ints : ∀ ns : List Int, PyData.depthAll (ns.map PyData.int) = 0
  | [] => rfl
  | n :: ns => by
    show max (PyData.depth (.int n)) (PyData.depthAll (ns.map PyData.int)) = 0
    rw [depth_ints ns]; rfl
theorem reads_vals {h : Heap} : ∀ {ns : List Int} {us : List Value}, Vals (ns.map V.int) us → ∃ as, ReadsAll h us (ns.map PyData.int) as
  | [], _, .nil => ⟨_, .nil⟩
  | n :: ns, _, .cons r t => by
    obtain ⟨tk, rfl⟩ := r
    obtain ⟨as, q⟩ := reads_vals (h := h) t
    exact ⟨_, .cons (.int _ _) q⟩
theorem reads_int {h : Heap} {v : Value} {n : Int} {bs : List Addr} (r : Reads h v (.int n) bs) : ∃ t, v = .int n t := by
  cases r; exact ⟨_, rfl⟩
def SqI (K : PySem.W.Frag) (H : Hp) (a : Addr) (ns : List Int) : Prop := SqL K H a (ns.map V.int) ∨ SqT K H a (ns.map V.int)
def rBest (K : PySem.W.Frag) (g : Int → Int → Int) : List V → Hp → VK → Prop := fun vs H Q => ∃ (a : Addr) (n : Int) (ns : List Int), vs = [V.ref a] ∧ SqI K H a (n :: ns) ∧ Q (.int (ns.foldl g n)) H
theorem cr_minA (hc : X.calm = true) (hu : X.A.units + 64 < cLine) : CallR X (.builtin "min") (rBest X.K min) := by
  intro pins s σ H vs us Q I r h
  obtain ⟨a, n, ns, rfl, hs, q⟩ := h
  rw [Vals.ref1 r]
  have hd : X.A.units + 1 + PyData.depthAll (.int n :: ns.map PyData.int) < cLine := by
    rw [show (PyData.int n :: ns.map PyData.int) = (n :: ns).map PyData.int from rfl, depth_ints]; omega
  have fin : ∀ (v : Value) (h' : Heap) (tk : Nat) (bs : List Addr), Reads h' v (minD (.int n) (ns.map PyData.int)) bs → (∀ b o, s.heap.get? b = some o → h'.get? b = some o) → EP X pins σ Q v { s with heap := h', toks := tk } := fun v h' tk bs r k => by
    rw [minD_ints] at r
    obtain ⟨t, rfl⟩ := reads_int r
    exact ⟨.int _, H, I.kept k, ⟨_, rfl⟩, q⟩
  rcases hs with hs | hs
  · obtain ⟨its, rv, hl, _⟩ := I.list hs
    obtain ⟨as, ra⟩ := reads_vals (h := s.heap) rv
    exact min_list_data (I.ok.hd hc) hl.isList ra (alike_ints (n :: ns)) hd fun i v h' tk bs _ r k => fin v h' tk bs r k
  · obtain ⟨its, rv, hl, _⟩ := I.tuple hs
    obtain ⟨as, ra⟩ := reads_vals (h := s.heap) rv
    exact min_tuple_data (I.ok.hd hc) (show s.heap.IsTuple a its.toArray from hl) ra (alike_ints (n :: ns)) hd fun i v h' tk bs _ r k => fin v h' tk bs r k
theorem cr_maxA (hc : X.calm = true) (hu : X.A.units + 64 < cLine) : CallR X (.builtin "max") (rBest X.K max) := by
  intro pins s σ H vs us Q I r h
  obtain ⟨a, n, ns, rfl, hs, q⟩ := h
  rw [Vals.ref1 r]
  have hd : X.A.units + 1 + PyData.depthAll (.int n :: ns.map PyData.int) < cLine := by
    rw [show (PyData.int n :: ns.map PyData.int) = (n :: ns).map PyData.int from rfl, depth_ints]; omega
  have fin : ∀ (v : Value) (h' : Heap) (tk : Nat) (bs : List Addr), Reads h' v (maxD (.int n) (ns.map PyData.int)) bs → (∀ b o, s.heap.get? b = some o → h'.get? b = some o) → EP X pins σ Q v { s with heap := h', toks := tk } := fun v h' tk bs r k => by
    rw [maxD_ints] at r
    obtain ⟨t, rfl⟩ := reads_int r
    exact ⟨.int _, H, I.kept k, ⟨_, rfl⟩, q⟩
  rcases hs with hs | hs
  · obtain ⟨its, rv, hl, _⟩ := I.list hs
    obtain ⟨as, ra⟩ := reads_vals (h := s.heap) rv
    exact max_list_data (I.ok.hd hc) hl.isList ra (alike_ints (n :: ns)) hd fun i v h' tk bs _ r k => fin v h' tk bs r k
  · obtain ⟨its, rv, hl, _⟩ := I.tuple hs
    obtain ⟨as, ra⟩ := reads_vals (h := s.heap) rv
    exact max_tuple_data (I.ok.hd hc) (show s.heap.IsTuple a its.toArray from hl) ra (alike_ints (n :: ns)) hd fun i v h' tk bs _ r k => fin v h' tk bs r k
end
end Pl
namespace Pl
open PySem PySem.Spec PyProof.Rows L2
def SqK (K : PySem.W.Frag) (k : Bool) (H : Hp) (a : Addr) (xs : List V) : Prop := match k with
  | true => SqL K H a xs
  | false => SqT K H a xs
def ItK (k : Bool) (h : Heap) (it a : Addr) (i : Nat) : Prop := match k with
  | true => h.IsListIter it a i
  | false => h.IsTupleIter it a i
def IsK (k : Bool) (h : Heap) (a : Addr) (items : Array Value) : Prop := match k with
  | true => h.IsList a items
  | false => h.IsTuple a items
def objK (k : Bool) (l : Addr) : Obj := match k with
  | true => { cls := .type "list_iterator", data := .fields #[.ref l, .int 0 0] }
  | false => { cls := .type "tuple_iterator", data := .fields #[.ref l, .int 0 0] }
theorem drawsK {prog : Program} {w : World} {A : Around} (hh : A.handled = none) (k : Bool) (it l : Addr) (hne : l ≠ it) (items : Array Value) :
    Draws prog w A it [it, l] items.size (fun i v => items[i]? = some v) (fun i h => ItK k h it l i ∧ IsK k h l items) := by
  cases k with
  | true => exact Draws.list hh it l hne items
  | false => exact Draws.tuple hh it l hne items
theorem beginsK (k : Bool) (l : Addr) (items : Array Value) : Begins (.ref l) (objK k l) fun h => IsK k h l items := by
  cases k with
  | true => exact begins_list l items
  | false => exact begins_tuple l items
theorem itK_new {k : Bool} {h : Heap} {it l : Addr} (e : h.get? it = some (objK k l)) : ItK k h it l 0 := by
  cases k with
  | true => exact ⟨_, e, rfl, rfl⟩
  | false => exact ⟨_, e, rfl, rfl⟩
theorem ItK.obj {k : Bool} {h : Heap} {it l : Addr} {i : Nat} (x : ItK k h it l i) : ∃ o, h.get? it = some o ∧ ∀ v, o.data ≠ .cell v := by
  cases k with
  | true => obtain ⟨o, e, _, d⟩ := x; exact ⟨o, e, fun v q => by rw [d] at q; cases q⟩
  | false => obtain ⟨o, e, _, d⟩ := x; exact ⟨o, e, fun v q => by rw [d] at q; cases q⟩
theorem ItK.at {k : Bool} {h h' : Heap} {it l : Addr} {i : Nat} (x : ItK k h it l i) (e : ∀ o, h.get? it = some o → h'.get? it = some o) : ItK k h' it l i := by
  cases k with
  | true => obtain ⟨o, q, r⟩ := x; exact ⟨o, e o q, r⟩
  | false => obtain ⟨o, q, r⟩ := x; exact ⟨o, e o q, r⟩
section
variable {X : Cx} {pins : List (Addr × Obj)} {σ : L2.St} {H : Hp} {s : Shared} {a : Addr} {xs ys : List V} {k : Bool}
theorem invK (I : Inv X pins σ H s) (h : SqK X.K k H a xs) : ∃ its : List Value, Vals xs its ∧ IsK k s.heap a its.toArray ∧ xs.length ≤ sizeLine ∧ a < s.heap.objs.size := by
  cases k with
  | true =>
    obtain ⟨its, r, p, z⟩ := I.list h
    exact ⟨its, r, p.isList, z, p.lt⟩
  | false =>
    obtain ⟨its, r, p, z⟩ := I.tuple h
    exact ⟨its, r, p, z, p.lt⟩
theorem invK_inj (I : Inv X pins σ H s) (h : SqK X.K k H a xs) (h' : SqK X.K k H a ys) : xs = ys := by
  cases k with
  | true => exact I.list_inj h h'
  | false => exact I.tuple_inj h h'
end
theorem SqK.mono {K : PySem.W.Frag} {k : Bool} {H H' : Hp} {a : Addr} {xs : List V} (e : Same H H') (h : SqK K k H a xs) : SqK K k H' a xs := by
  cases k with
  | true => exact e.seq h
  | false =>
    rcases h with (h | ⟨o, h⟩) | h
    · exact .inl (.inl (e _ _ h))
    · exact .inl (.inr ⟨o, e _ _ h⟩)
    · exact .inr h
theorem turn_goes {P : Program} {w : World} {K : PySem.W.Frag} {tg : Expr} {J : It} {fp : List Addr} {it : Addr} {tn : Nat → Heap → Prop}
    (mem : it ∈ fp) (obj : ∀ i h, tn i h → ∀ b ∈ fp, ∃ o, h.get? b = some o ∧ ∀ v, o.data ≠ .cell v) (keep : ∀ i h h', tn i h → (∀ b ∈ fp, ∀ o, h.get? b = some o → h'.get? b = some o) → tn i h')
    (go : ∀ (X : Cx), X.prog = P → X.w = w → X.K = K → X.calm = true → ∀ (i : Nat) (pins : List (Addr × Obj)) (s : Shared) (σ : L2.St) (H : Hp), Inv X pins σ H s → (∀ b ∈ fp, FpOk X pins H b) → tn i s.heap → (J.go i H ∨ J.stop i H) →
      ∃ (gfp wr : List Addr) (n : Nat) (Y : Nat → Heap → Value → Heap → Prop) (St : Nat → Heap → Prop), GoesN P w X.A tg it gfp wr n Y St ∧ St i s.heap ∧ (∀ b ∈ wr, b ∈ fp) ∧
        (J.go i H → i < n ∧ ∀ v h', Y i s.heap v h' → St (i + 1) h' → (∀ b o, b ∉ wr → s.heap.get? b = some o → h'.get? b = some o) →
          tn (i + 1) h' ∧ ∃ T ob, v = .ref T ∧ s.heap.objs.size ≤ T ∧ ObjOk P w (upd H T ob) h' T ob ∧ J.yld i H (.ref T) (upd H T ob)) ∧ (J.stop i H → i = n))
    (self : ∀ (A : Around) (i : Nat) (s : Shared) (Q : Value → Shared → Prop) (E : Value → Shared → Prop), tn i s.heap → Q (.ref it) s → wpAny (model P w) A (pyIter (.ref it)) Q E s) : Turn P w K tg J fp it tn where
  mem := mem
  obj := obj
  keep := keep
  item := by
    intro X hP hw hK hc i pins s σ H E I hf st hg
    obtain ⟨gfp, wr, n, Y, St, W, hst, hsub, h1, _⟩ := go X hP hw hK hc i pins s σ H I hf st (.inl hg)
    obtain ⟨hlt, h2⟩ := h1 hg
    subst hP hw hK
    refine W.goes i s (fun u s2 => ∃ x H', Inv X pins σ H' s2 ∧ RelV x u ∧ J.yld i H x H' ∧ tn (i + 1) s2.heap ∧ ∀ b ∈ fp, H' b = none) E hlt hst fun v h' tk hY st' hk _ => ?_
    obtain ⟨ht, T, ob, rfl, hT, new, yl⟩ := h2 v h' hY st' hk
    have I1 : Inv X pins σ (upd H T ob) { s with heap := h', toks := tk } := I.turnedNew (ch := wr) hk (fun b hb => hf b (hsub b hb)) hT new
    refine ⟨.ref T, _, I1, rfl, yl, ht, fun b hb => ?_⟩
    obtain ⟨o, e, _⟩ := obj i s.heap st b hb
    rw [upd_ne (Nat.ne_of_lt (Nat.lt_of_lt_of_le (Heap.lt_size e) hT))]
    exact (hf b hb).1
  done := by
    intro X hP hw hK hc i pins s σ H E I hf st hg
    obtain ⟨gfp, wr, n, Y, St, W, hst, hsub, _, h2⟩ := go X hP hw hK hc i pins s σ H I hf st (.inr hg)
    subst hP hw hK
    have e := h2 hg
    subst e
    refine W.stops s (fun s1 => Inv X pins σ H s1) E hst fun h' tk hk _ => ?_
    exact I.turnedL hk fun b hb => hf b (hsub b hb)
  self := self
theorem tup_ok {P : Program} {w : World} {H : Hp} {h : Heap} {T : Addr} {xs : List V} {us : List Value} (r : Vals xs us) (ht : h.IsTuple T us.toArray) (hz : xs.length ≤ sizeLine) : ObjOk P w (upd H T (.tup xs)) h T (.tup xs) := ⟨hz, us, r, ht⟩
def ItZ2 (K : PySem.W.Frag) (k1 : Bool) (a : Addr) (k2 : Bool) (b : Addr) : It :=
  ⟨fun i H => ∃ (xs ys : List V) (x y : V), SqK K k1 H a xs ∧ SqK K k2 H b ys ∧ xs[i]? = some x ∧ ys[i]? = some y,
    fun i H v H' => ∃ T x y, v = .ref T ∧ H T = none ∧ H' = upd H T (.tup [x, y]) ∧ (∀ xs, SqK K k1 H a xs → xs[i]? = some x) ∧ ∀ ys, SqK K k2 H b ys → ys[i]? = some y,
    fun i H => ∃ xs ys : List V, SqK K k1 H a xs ∧ SqK K k2 H b ys ∧ i = min xs.length ys.length⟩
theorem turn_z2 {P : Program} {w : World} {K : PySem.W.Frag} {elts : List Expr} {kk : Nat} {tpos : Pos} {k1 k2 : Bool} {a b z TI TO i1 i2 : Addr} (S : ZipSep2 z TI TO i1 i2 [i1, a] [i2, b]) (hia : a ≠ i1) (hib : b ≠ i2) :
    Turn P w K (.Tuple elts kk tpos) (ItZ2 K k1 a k2 b) [z, TI, TO, i1, i2] z (fun i h => IsZip h z TI TO .none ∧ IsTupOf2 h TI (.ref i1) (.ref i2) ∧ (∃ a1 a2, IsTupOf2 h TO a1 a2) ∧ ItK k1 h i1 a i ∧ ItK k2 h i2 b i) := by
  refine turn_goes (by simp) (fun i h st c hc => ?_) (fun i h h' st k => ?_) (fun X hP hw hK hc i pins s σ H I hf st hg => ?_) fun A i s Q E st h => wpAny_pyIter_zip st.1 h
  · obtain ⟨hz, hTI, ⟨x, y, hTO⟩, h1, h2⟩ := st
    have e' : c = z ∨ c = TI ∨ c = TO ∨ c = i1 ∨ c = i2 := by simpa using hc
    rcases e' with q | q | q | q | q
    · rw [q]; exact ⟨_, hz, fun v q => nomatch q⟩
    · rw [q]; exact ⟨_, hTI, fun v q => nomatch q⟩
    · rw [q]; exact ⟨_, hTO, fun v q => nomatch q⟩
    · rw [q]; exact h1.obj
    · rw [q]; exact h2.obj
  · obtain ⟨hz, hTI, ⟨x, y, hTO⟩, h1, h2⟩ := st
    exact ⟨k z (by simp) _ hz, k TI (by simp) _ hTI, ⟨x, y, k TO (by simp) _ hTO⟩, h1.at fun o q => k i1 (by simp) o q, h2.at fun o q => k i2 (by simp) o q⟩
  · subst hP hw hK
    obtain ⟨hz, hTI, hTO, h1, h2⟩ := st
    have src : ∃ xs ys, SqK X.K k1 H a xs ∧ SqK X.K k2 H b ys := by
      rcases hg with ⟨xs, ys, _, _, p, q, _⟩ | ⟨xs, ys, p, q, _⟩
      · exact ⟨xs, ys, p, q⟩
      · exact ⟨xs, ys, p, q⟩
    obtain ⟨xs, ys, sx, sy⟩ := src
    obtain ⟨its, rv, p1, z1, _⟩ := invK I sx
    obtain ⟨its2, rv2, p2, z2, _⟩ := invK I sy
    have hh : X.A.in1.handled = none := I.ok.hd hc
    have l1 := rv.length
    have l2 := rv2.length
    refine ⟨_, _, _, _, _, GoesN.zip2 S (drawsK hh k1 i1 a hia its.toArray) (drawsK hh k2 i2 b hib its2.toArray), ⟨hz, hTI, hTO, ⟨h1, p1⟩, ⟨h2, p2⟩⟩, fun c hc => ?_, fun hgo => ⟨?_, fun v h' hY st' hk => ?_⟩, fun hs => ?_⟩
    · have e' : c = z ∨ c = TO ∨ c = i1 ∨ c = i2 := by simpa using hc
      rcases e' with q | q | q | q <;> simp [q]
    · obtain ⟨xs', ys', x, y, p, q, e1, e2⟩ := hgo
      have E1 := invK_inj I p sx
      have E2 := invK_inj I q sy
      subst E1 E2
      have g1 : i < xs'.length := by
        rcases Nat.lt_or_ge i xs'.length with g | g
        · exact g
        · rw [List.getElem?_eq_none g] at e1; cases e1
      have g2 : i < ys'.length := by
        rcases Nat.lt_or_ge i ys'.length with g | g
        · exact g
        · rw [List.getElem?_eq_none g] at e2; cases e2
      simp only [List.size_toArray]
      omega
    · obtain ⟨T, u, v', rfl, hT, hu, hv, htup⟩ := hY
      obtain ⟨hz', hTI', hTO', ⟨h1', _⟩, ⟨h2', _⟩⟩ := st'
      refine ⟨⟨hz', hTI', hTO', h1', h2'⟩, ?_⟩
      obtain ⟨xs', ys', x, y, p, q, e1, e2⟩ := hgo
      have E1 := invK_inj I p sx
      have E2 := invK_inj I q sy
      subst E1 E2
      obtain ⟨u', hu', ru⟩ := rv.get e1
      obtain ⟨w', hw', rw'⟩ := rv2.get e2
      have eu : u = u' := by
        have : its[i]? = some u := by simpa using hu
        rw [hu'] at this; exact (Option.some.inj this).symm
      have ev : v' = w' := by
        have : its2[i]? = some v' := by simpa using hv
        rw [hw'] at this; exact (Option.some.inj this).symm
      subst eu ev
      refine ⟨T, .tup [x, y], rfl, hT, tup_ok (us := [u, v']) (.cons ru (.cons rw' .nil)) htup (by show 2 ≤ sizeLine; decide), T, x, y, rfl, I.hok.fresh hT, rfl, fun l hl => by rw [invK_inj I hl p]; exact e1, fun l hl => by rw [invK_inj I hl q]; exact e2⟩
    · obtain ⟨xs', ys', p, q, e⟩ := hs
      have E1 := invK_inj I p sx
      have E2 := invK_inj I q sy
      subst E1 E2
      simp only [List.size_toArray]
      omega
def iZ2 (K : PySem.W.Frag) (ta : TA) : TI := fun σ H R => ta σ H fun vs H1 => ∃ k1 k2 a b xs ys, vs = [.ref a, .ref b] ∧ SqK K k1 H1 a xs ∧ SqK K k2 H1 b ys ∧ R (ItZ2 K k1 a k2 b) H1
theorem pi_z2 {X : Cx} {e e2 : Expr} {ta : TA} {p pos tpos : Pos} {elts : List Expr} {kk : Nat} (hg : Gl X "zip") (hm : X.mg "zip" = none) (ha : PA X [e, e2] ta)
    (hs : starEach [e, e2] X.env = (false, eval e X.env) :: starEach [e2] X.env := by rfl) (hpl : (backTo pos (starEach [e2] X.env)).any (·.1) = false := by rfl) :
    PI X (.Tuple elts kk tpos) (.Call (.Name "zip" p) [e, e2] [] pos) (iZ2 X.K ta) := by
  refine ⟨fun pins s σ H R I h => ?_⟩
  refine Call_ (ld_blt I hg hm PyProof.Rows.boot_zip (PyProof.Rows.callWith_type1 (thn (ha.run pos pins s σ H _ I h) fun us s1 ⟨vs, H1, I1, r1, q1⟩ => ?_) hs hpl))
  obtain ⟨k1, k2, a, b, xs, ys, ex, hqx, hqy, q⟩ := q1
  subst ex
  obtain ⟨u1, u2, rfl, ra, rb⟩ := vals2 r1
  cases ra
  cases rb
  obtain ⟨its, rv, p1, _, la⟩ := invK I1 hqx
  obtain ⟨its2, rv2, p2, _, lb⟩ := invK I1 hqy
  refine zip_begins2 (beginsK k1 a its.toArray) (beginsK k2 b its2.toArray) p1 p2 fun h' hz hTI hTO h1 h2 hsz hk => wpAny_pyIter_zip hz ?_
  have I2 : Inv X pins σ H1 { s1 with heap := h' } := I1.kept (t' := s1.toks) hk
  refine ⟨s1.heap.objs.size + 4, [s1.heap.objs.size + 4, s1.heap.objs.size + 2, s1.heap.objs.size + 3, s1.heap.objs.size, s1.heap.objs.size + 1], _, _, H1, rfl, I2,
    turn_z2 (zip_sep2 (fp1 := [a]) (fp2 := [b]) (fun c hc => by rw [List.mem_singleton.mp hc]; exact la) (fun c hc => by rw [List.mem_singleton.mp hc]; exact lb)) (Nat.ne_of_lt la) (Nat.ne_of_lt (Nat.lt_succ_of_lt lb)), ⟨hz, hTI, ⟨_, _, hTO⟩, itK_new h1, itK_new h2⟩, fun c hcm => ?_, q⟩
  have hle : s1.heap.objs.size ≤ c := by
    have e' : c = s1.heap.objs.size + 4 ∨ c = s1.heap.objs.size + 2 ∨ c = s1.heap.objs.size + 3 ∨ c = s1.heap.objs.size ∨ c = s1.heap.objs.size + 1 := by simpa using hcm
    rcases e' with z | z | z | z | z
    · rw [z]; exact Nat.le_add_right _ _
    · rw [z]; exact Nat.le_add_right _ _
    · rw [z]; exact Nat.le_add_right _ _
    · rw [z]; exact Nat.le_refl _
    · rw [z]; exact Nat.le_add_right _ _
  exact I1.fpOk hle (I1.hok.fresh hle)
theorem lt_of_get {α : Type} {l : List α} {i : Nat} {x : α} (e : l[i]? = some x) : i < l.length := by
  rcases Nat.lt_or_ge i l.length with g | g
  · exact g
  · rw [List.getElem?_eq_none g] at e; cases e
end Pl
namespace Pl
open PySem PySem.Spec PyProof.Rows L2
variable [TJ]
structure PEnds where
  nx : Ro → Prop
  rt : Cell → Ro → Prop
  bk : Ro → Prop := fun _ => False
  ct : Ro → Prop := fun _ => False
abbrev TSp := PEnds → Ro → Prop
structure ERel (K : PySem.W.Frag) (G F : Hp) (P : PEnds) (D : Ends) : Prop where
  nx : ∀ F' H' σ' ρ', Up G F F' → Sim K G F' H' σ' ρ' → P.nx ρ' → D.nx σ' H'
  rt : ∀ F' H' σ' ρ' v c, Up G F F' → Sim K G F' H' (σ' ++ [some v]) (ρ' ++ [some c]) → P.rt c ρ' → D.rt v H'
  bk : ∀ F' H' σ' ρ', Up G F F' → Sim K G F' H' σ' ρ' → P.bk ρ' → D.bk σ' H'
  ct : ∀ F' H' σ' ρ', Up G F F' → Sim K G F' H' σ' ρ' → P.ct ρ' → D.ct σ' H'
theorem ERel.mono {K : PySem.W.Frag} {G F F1 : Hp} {P : PEnds} {D : Ends} (e : ERel K G F P D) (u : Up G F F1) : ERel K G F1 P D :=
  ⟨fun F' H' σ' ρ' v => e.nx F' H' σ' ρ' (u.trans v), fun F' H' σ' ρ' x c v => e.rt F' H' σ' ρ' x c (u.trans v), fun F' H' σ' ρ' v => e.bk F' H' σ' ρ' (u.trans v), fun F' H' σ' ρ' v => e.ct F' H' σ' ρ' (u.trans v)⟩
def SndS (K : PySem.W.Frag) (t : TS) (T : TSp) : Prop := ∀ (G F H : Hp) (σ : L2.St) (ρ : Ro) (P : PEnds) (D : Ends), Sim K G F H σ ρ → T P ρ → ERel K G F P D → t D σ H
structure PPS (X : Cx) (st : Stmt) (t : TS) (T : TSp) : Prop where
  ps : PS X st t
  snd : SndS X.K t T
structure PPSs (X : Cx) (st : List Stmt) (t : TS) (T : TSp) : Prop where
  ps : PSs X st t
  snd : SndS X.K t T
section
variable {X : Cx} {st : Stmt} {rest : List Stmt} {t u : TS} {T U : TSp} {e : Expr} {te : TE} {Te : TEp} {Tc : TCp} {pos : Pos}
def pNext : TSp := fun P ρ => P.nx ρ
def pSeq (T U : TSp) : TSp := fun P ρ => T { P with nx := U P } ρ
theorem ppss_nil : PPSs X [] tNext pNext := ⟨pss_nil, fun G F H σ ρ P D S h r => r.nx F H σ ρ (.refl _ _) S h⟩
theorem ppss_one (h1 : PPS X st t T) : PPSs X [st] t T := ⟨pss_one h1.ps, h1.snd⟩
theorem ppss_cons (h1 : PPS X st t T) (h2 : PPSs X rest u U) : PPSs X (st :: rest) (tSeq t u) (pSeq T U) := ⟨pss_cons h1.ps h2.ps, fun G F H σ ρ P D S h r =>
  h1.snd G F H σ ρ _ _ S h ⟨fun F' H' σ' ρ' u S' q => h2.snd G F' H' σ' ρ' P D S' q (r.mono u), r.rt, r.bk, r.ct⟩⟩
def pDrop (Te : TEp) : TSp := fun P ρ => Te ρ fun _ ρ1 => P.nx ρ1
theorem pps_expr (he : PPE X e te Te) (hs : swapsWith e none pos.line X.env = pure false := by rfl) : PPS X (.Expr e pos) (tDrop te) (pDrop Te) := ⟨ps_expr he.pe hs, fun G F H σ ρ P D S h r =>
  he.snd G F H σ ρ _ _ S h fun v d F' H' ρ' u S' _ q => r.nx F' H' σ ρ' u S' q⟩
def pRet (Tc : TCp) : TSp := fun P ρ => Tc ρ P.rt
theorem pps_ret (he : PPC X e te Tc) : PPS X (.Return (some e) pos) (tRet te) (pRet Tc) := ⟨ps_ret he.pe, fun G F H σ ρ P D S h r =>
  he.snd G F H σ ρ _ _ S h fun v c F' H' ρ' u S' q => r.rt F' H' σ ρ' v c u S' q⟩
def pIfS (C : TTp) (T U : TSp) : TSp := fun P ρ => C ρ fun b ρ1 => if b = true then T P ρ1 else U P ρ1
theorem pps_if {c : Expr} {a b : List Stmt} {tc : TT} {C : TTp} (hc : PPT X c tc C) (ha : PPSs X a t T) (hb : PPSs X b u U) : PPS X (.If c a b pos) (tIfS tc t u) (pIfS C T U) := ⟨ps_if hc.pt ha.ps hb.ps, fun G F H σ ρ P D S h r =>
  hc.snd G F H σ ρ _ _ S h fun b F' H' ρ' u S' q => by
    cases b with
    | true => exact ite_ti (ha.snd G F' H' σ ρ' P D S' (ite_t q) (r.mono u))
    | false => exact ite_fi (hb.snd G F' H' σ ρ' P D S' (ite_f q) (r.mono u))⟩
def pNever : TSp := fun _ _ => False
theorem pps_never : PPS X st tNever pNever := ⟨ps_never, fun _ _ _ _ _ _ _ _ h _ => h.elim⟩
abbrev TGp := D → Ro → (Ro → Prop) → Prop
abbrev TGsp := List D → Ro → (Ro → Prop) → Prop
def SndG (K : PySem.W.Frag) (g : TG) (Gp : TGp) (is : List Nat) : Prop := ∀ (G F H : Hp) (σ : L2.St) (ρ : Ro) (Q : Ro → Prop) (R : L2.St → Hp → Prop) (v : V) (d : D), Sim K G F H σ ρ → Rep K F v d → Gp d ρ Q →
  (∀ F' H' σ' ρ', Up G F F' → Sim K G F' H' σ' ρ' → (∀ j, j ∉ is → σ'[j]? = σ[j]?) → σ'.length = σ.length → Q ρ' → R σ' H') → g v σ H R
def SndGs (K : PySem.W.Frag) (g : TGs) (Gp : TGsp) (is : List Nat) : Prop := ∀ (G F H : Hp) (σ : L2.St) (ρ : Ro) (Q : Ro → Prop) (R : L2.St → Hp → Prop) (vs : List V) (ds : List D), Sim K G F H σ ρ → Reps K F vs ds → Gp ds ρ Q →
  (∀ F' H' σ' ρ', Up G F F' → Sim K G F' H' σ' ρ' → (∀ j, j ∉ is → σ'[j]? = σ[j]?) → σ'.length = σ.length → Q ρ' → R σ' H') → g vs σ H R
structure PTg (X : Cx) (tg : Expr) (g : TG) (Gp : TGp) (is : List Nat) : Prop where
  pg : PG X tg g
  snd : SndG X.K g Gp is
structure PTgs (X : Cx) (tgs : List Expr) (g : TGs) (Gp : TGsp) (is : List Nat) : Prop where
  pg : PGs X tgs g
  snd : SndGs X.K g Gp is
def hName (i : Nat) : TGp := fun d ρ Q => Q (ρ.set i (some (.val d)))
theorem ptg_name {i : Nat} {x : Str} (hN : X.N.Nodup) (hi : X.N[i]? = some x := by rfl) (hx : Loc X.env.scope x := by first | exact Or.inl rfl | exact Or.inr rfl) (hf : X.fn x = true ∨ X.env.scope.names.lookup x = some .local := by first | exact .inl rfl | exact .inr rfl | assumption) : PTg X (.Name x pos) (gName i) (hName i) [i] :=
  ⟨pg_name hN hi hx hf, fun G F H σ ρ Q R v d S r h k => k F H _ _ (.refl _ _) (S.setVal i r) (fun j hj => List.getElem?_set_ne (fun z => hj (by simp [z]))) (by simp) h⟩
def hNil : TGsp := fun ds ρ Q => ds = [] ∧ Q ρ
def hCons (g : TGp) (gs : TGsp) : TGsp := fun ds ρ Q => match ds with | d :: r => g d ρ fun ρ' => gs r ρ' Q | [] => False
theorem ptgs_nil : PTgs X [] gNil hNil [] := ⟨pgs_nil, fun G F H σ ρ Q R vs ds S r h k => by
  obtain ⟨rfl, h⟩ := h
  cases r
  exact ⟨rfl, k F H σ ρ (.refl _ _) S (fun _ _ => rfl) rfl h⟩⟩
theorem ptgs_cons {e : Expr} {es : List Expr} {g : TG} {gs : TGs} {Gp : TGp} {Gs : TGsp} {is js : List Nat} (h1 : PTg X e g Gp is) (h2 : PTgs X es gs Gs js)
    (hs : (assignEach (e :: es) X.env).map (·.2) = assign e X.env :: (assignEach es X.env).map (·.2) := by rfl) : PTgs X (e :: es) (gCons g gs) (hCons Gp Gs) (is ++ js) := ⟨pgs_cons h1.pg h2.pg hs, fun G F H σ ρ Q R vs ds S r h k => by
  cases r with
  | nil => exact h.elim
  | cons r1 r2 => exact ⟨_, _, rfl, h1.snd G F H σ ρ _ _ _ _ S r1 h fun F1 H1 σ1 ρ1 u1 S1 o1 l1 q1 => h2.snd G F1 H1 σ1 ρ1 _ _ _ _ S1 (r2.mono u1.ex) q1 fun F2 H2 σ2 ρ2 u2 S2 o2 l2 q2 =>
      k F2 H2 σ2 ρ2 (u1.trans u2) S2 (fun j hj => (o2 j fun z => hj (List.mem_append_right _ z)).trans (o1 j fun z => hj (List.mem_append_left _ z))) (l2.trans l1) q2⟩⟩
def gAny (K : PySem.W.Frag) (n : Nat) (t : TGs) : TG := fun v σ H Q => gTup K n t v σ H Q ∨ gUnl K n t v σ H Q
def hTup (n : Nat) (g : TGsp) : TGp := fun d ρ Q => match d with
  | .tup ds => ds.length = n ∧ g ds ρ Q
  | .lst ds => ds.length = n ∧ g ds ρ Q
  | _ => False
theorem ptg_tup {es : List Expr} {k : Nat} {t : TGs} {Gp : TGsp} {n : Nat} {is : List Nat} (hc : X.calm = true) (h : PTgs X es t Gp is)
    (hn : (assignEach es X.env).length = n := by rfl) (hst : (assignEach es X.env).findIdx? (·.1) = none := by rfl) : PTg X (.Tuple es k pos) (gAny X.K n t) (hTup n Gp) is :=
  ⟨⟨fun pins s σ H v u Q I r hw => hw.elim (fun hw => (pg_tup hc h.pg hn hst).run pins s σ H v u Q I r hw) fun hw => (pg_unl hc h.pg hn hst).run pins s σ H v u Q I r hw⟩, fun G F H σ ρ Q R v d S r hh k => by
    cases r with
    | tup e r => exact .inl ⟨_, _, rfl, SqT.of (S.hF _ _ e), by rw [r.length]; exact hh.1, h.snd G F H σ ρ Q R _ _ S r hh.2 k⟩
    | lst e r => exact .inr ⟨_, _, rfl, SqL.of (S.hF _ _ e), by rw [r.length]; exact hh.1, h.snd G F H σ ρ Q R _ _ S r hh.2 k⟩
    | _ => exact hh.elim⟩
def pSet (i : Nat) (Tc : TCp) : TSp := fun P ρ => Tc ρ fun c ρ1 => P.nx (ρ1.set i (some c))
theorem snd_set {K : PySem.W.Frag} {i : Nat} {te : TE} {Tc : TCp} (h : SndC K te Tc) : SndS K (tAsg te (gName i)) (pSet i Tc) := fun G F H σ ρ P D S hT r =>
  h G F H σ ρ _ _ S hT fun v c F' H' ρ' u S' q => r.nx F' H' _ _ u (S'.store i) q
theorem pps_set {i : Nat} {x : Str} {pos' : Pos} (hN : X.N.Nodup) (he : PPC X e te Tc) (hi : X.N[i]? = some x := by rfl) (hx : Loc X.env.scope x := by first | exact Or.inl rfl | exact Or.inr rfl) (hs : swapsWith e (some (.Name x pos')) pos.line X.env = pure false := by rfl) (hf : X.fn x = true ∨ X.env.scope.names.lookup x = some .local := by first | exact .inl rfl | exact .inr rfl | assumption) :
    PPS X (.Assign [.Name x pos'] e pos) (tAsg te (gName i)) (pSet i Tc) := ⟨ps_set hN hi hx he.pe hs hf, snd_set he.snd⟩
def pAsg (Te : TEp) (g : TGp) : TSp := fun P ρ => Te ρ fun d ρ1 => g d ρ1 P.nx
theorem pps_asg {tg : Expr} {g : TG} {Gp : TGp} {is : List Nat} (he : PPE X e te Te) (hg : PTg X tg g Gp is) (hs : swapsWithSole [tg] e pos.line X.env = pure false := by rfl) (hw : swappedStores [tg] e X.env = pure none := by rfl)
    (h1 : (assignEach [tg] X.env).map (·.2) = [assign tg X.env] := by rfl) : PPS X (.Assign [tg] e pos) (tAsg te g) (pAsg Te Gp) := ⟨ps_asg he.pe hg.pg hs hw h1, fun G F H σ ρ P D S hT r =>
  he.snd G F H σ ρ _ _ S hT fun v d F' H' ρ' u S' rv q => hg.snd G F' H' σ ρ' _ _ v d S' rv q fun F2 H2 σ2 ρ2 u2 S2 _ _ q2 => r.nx F2 H2 σ2 ρ2 (u.trans u2) S2 q2⟩
def pPar (i j : Nat) (T : TAp) : TSp := fun P ρ => T ρ fun ds ρ1 => match ds with | [x, y] => P.nx ((ρ1.set i (some (.val x))).set j (some (.val y))) | _ => False
theorem pps_par {i j : Nat} {x y : Str} {a b : Expr} {ta : TA} {TA' : TAp} {px py pt : Pos} {kt k2 pt2} (hc : X.calm = true) (hN : X.N.Nodup) (ha : PPA X [a, b] ta TA') (hi : X.N[i]? = some x := by rfl) (hj : X.N[j]? = some y := by rfl) (hij : i ≠ j := by decide)
    (hx : X.env.scope.names.lookup x = some .local := by rfl) (hy : X.env.scope.names.lookup y = some .local := by rfl)
    (hw : swappedStores [.Tuple [.Name x px, .Name y py] kt pt] (.Tuple [a, b] k2 pt2) X.env = pure (some [x, y]) := by rfl)
    (hs : swapsWithSole [.Tuple [.Name x px, .Name y py] kt pt] (.Tuple [a, b] k2 pt2) pos.line X.env = pure false := by rfl) :
    PPS X (.Assign [.Tuple [.Name x px, .Name y py] kt pt] (.Tuple [a, b] k2 pt2) pos) (tPar i j ta) (pPar i j TA') := ⟨ps_par hc hN hi hj hij hx hy ha.pa hw hs, fun G F H σ ρ P D S hT r =>
  ha.snd G F H σ ρ _ _ S hT fun vs ds F' H' ρ' u S' rv q => by
    match rv, q with
    | .cons (d := d1) r1 (.cons (d := d2) r2 .nil), q => exact ⟨_, _, rfl, r.nx F' H' _ _ u ((S'.setVal i r1).setVal j r2) q⟩
    | .nil, q => exact q.elim
    | .cons _ .nil, q => exact q.elim
    | .cons _ (.cons _ (.cons _ _)), q => exact q.elim⟩
end
def ItRep (K : PySem.W.Frag) (J : It) (F : Hp) (ds : List D) : Prop := ∀ F' H, Same F F' → Same F' H →
  (∀ (i : Nat) (d : D), ds[i]? = some d → J.go i H ∧ ∀ x H', J.yld i H x H' → ∃ F'', Res K F' H x d F'' H') ∧ J.stop ds.length H
theorem ItRep.mono {K : PySem.W.Frag} {J : It} {F F1 : Hp} {ds : List D} (h : ItRep K J F ds) (e : Same F F1) : ItRep K J F1 ds := fun F' H e1 e2 => h F' H (e.trans e1) e2
def SndI (K : PySem.W.Frag) (wi : TI) (T : TAp) : Prop := ∀ (G F H : Hp) (σ : L2.St) (ρ : Ro) (Q : List D → Ro → Prop) (R : It → Hp → Prop), Sim K G F H σ ρ → T ρ Q →
  (∀ J ds F' H' ρ', Up G F F' → Sim K G F' H' σ ρ' → ItRep K J F' ds → Q ds ρ' → R J H') → wi σ H R
structure PPI (X : Cx) (tg iter : Expr) (wi : TI) (T : TAp) : Prop where
  pi : PI X tg iter wi
  snd : SndI X.K wi T
theorem itrep_list {K : PySem.W.Frag} {F : Hp} {a : Addr} {vs : List V} {ds : List D} (h : F a = some (.lst vs)) (r : Reps K F vs ds) : ItRep K (Itl K a) F ds := fun F' H e1 e2 => by
  have hH : H a = some (.lst vs) := e2 _ _ (e1 _ _ h)
  refine ⟨fun i d hd => ?_, ⟨vs, SqL.of hH, by rw [r.length]; exact Nat.le_refl _⟩⟩
  obtain ⟨v, hv, rv⟩ := r.get hd
  refine ⟨⟨vs, v, SqL.of hH, hv⟩, fun x H' y => ?_⟩
  obtain ⟨rfl, y⟩ := y
  have e : x = v := Option.some.inj ((y vs (SqL.of hH)).symm.trans hv)
  subst e
  exact ⟨F', .old (rv.mono e1)⟩
theorem itrep_tup {K : PySem.W.Frag} {F : Hp} {a : Addr} {vs : List V} {ds : List D} (h : F a = some (.tup vs)) (r : Reps K F vs ds) : ItRep K (Itt K a) F ds := fun F' H e1 e2 => by
  have hH : H a = some (.tup vs) := e2 _ _ (e1 _ _ h)
  refine ⟨fun i d hd => ?_, ⟨vs, SqT.of hH, by rw [r.length]; exact Nat.le_refl _⟩⟩
  obtain ⟨v, hv, rv⟩ := r.get hd
  refine ⟨⟨vs, v, SqT.of hH, hv⟩, fun x H' y => ?_⟩
  obtain ⟨rfl, y⟩ := y
  have e : x = v := Option.some.inj ((y vs (SqT.of hH)).symm.trans hv)
  subst e
  exact ⟨F', .old (rv.mono e1)⟩
def asSeq (d : D) (k : List D → Prop) : Prop := match d with
  | .lst xs => k xs
  | .tup xs => k xs
  | _ => False
theorem Rep.seq {K : PySem.W.Frag} {F : Hp} {v : V} {d : D} {k : List D → Prop} (r : Rep K F v d) (h : asSeq d k) : ∃ (a : Addr) (q : Bool) (vs : List V) (ds : List D), v = .ref a ∧ F a = some (if q = true then .lst vs else .tup vs) ∧ Reps K F vs ds ∧ k ds := by
  cases r with
  | lst e r => exact ⟨_, true, _, _, rfl, e, r, h⟩
  | tup e r => exact ⟨_, false, _, _, rfl, e, r, h⟩
  | _ => exact h.elim
theorem sqk_of {K : PySem.W.Frag} {H : Hp} {a : Addr} {q : Bool} {vs : List V} (h : H a = some (if q = true then HO.lst vs else .tup vs)) : SqK K q H a vs := by
  cases q with
  | true => exact SqL.of h
  | false => exact SqT.of h
section
variable {X : Cx} {tg : Expr} {l : Expr} {tl : TE} {Tl : TEp} {pos : Pos}
def iAny (K : PySem.W.Frag) (tl : TE) : TI := fun σ H R => tl σ H fun x H1 => ∃ a, x = .ref a ∧ (((∃ xs, SqL K H1 a xs) ∧ R (Itl K a) H1) ∨ ((∃ xs, SqT K H1 a xs) ∧ R (Itt K a) H1))
theorem pi_any (hl : PE X l tl) : PI X tg l (iAny X.K tl) := by
  refine ⟨fun pins s σ H R I h => ?_⟩
  refine thn (hl.run pins s σ H _ I h) fun v s1 ⟨x, H1, I1, r1, q1⟩ => ?_
  obtain ⟨a, e, q1⟩ := q1
  subst e
  cases r1
  rcases q1 with ⟨⟨xs, hq⟩, q⟩ | ⟨⟨xs, hq⟩, q⟩
  · obtain ⟨its, rv, p, hz⟩ := I1.list hq
    refine wpAny_pyIter_list p.isList ?_
    refine ⟨s1.heap.objs.size, [s1.heap.objs.size], _, _, H1, rfl, I1.kept (t' := s1.toks) fun b o e => Heap.get?_push_of_some _ e, turn_list a _, ⟨_, Heap.get?_push_size _ rfl, rfl, rfl⟩, fun b hb => ?_, q⟩
    have e : b = s1.heap.objs.size := by simpa using hb
    subst e
    exact I1.fpOk (Nat.le_refl _) (I1.hok.fresh (Nat.le_refl _))
  · obtain ⟨its, rv, p, hz⟩ := I1.tuple hq
    refine wpAny_pyIter_tuple (show s1.heap.IsTuple a its.toArray from p) ?_
    refine ⟨s1.heap.objs.size, [s1.heap.objs.size], _, _, H1, rfl, I1.kept (t' := s1.toks) fun b o e => Heap.get?_push_of_some _ e, turn_tuple a _, ⟨_, Heap.get?_push_size _ rfl, rfl, rfl⟩, fun b hb => ?_, q⟩
    have e : b = s1.heap.objs.size := by simpa using hb
    subst e
    exact I1.fpOk (Nat.le_refl _) (I1.hok.fresh (Nat.le_refl _))
def jSeq (Tl : TEp) : TAp := fun ρ Q => Tl ρ fun x ρ1 => asSeq x fun xs => Q xs ρ1
theorem ppi_seq (hl : PPE X l tl Tl) : PPI X tg l (iAny X.K tl) (jSeq Tl) := ⟨pi_any hl.pe, fun G F H σ ρ Q R S h k =>
  hl.snd G F H σ ρ _ _ S h fun v d F' H' ρ' u S' rv q => by
    cases rv with
    | lst e r => exact ⟨_, rfl, .inl ⟨⟨_, SqL.of (S'.hF _ _ e)⟩, k _ _ F' H' ρ' u S' (itrep_list e r) q⟩⟩
    | tup e r => exact ⟨_, rfl, .inr ⟨⟨_, SqT.of (S'.hF _ _ e)⟩, k _ _ F' H' ρ' u S' (itrep_tup e r) q⟩⟩
    | _ => exact q.elim⟩
def rangeD (lo : Int) (n : Nat) : List D := (List.range n).map fun (i : Nat) => .int (lo + (i : Int))
theorem itrep_range {K : PySem.W.Frag} {F : Hp} (lo : Int) (n : Nat) : ItRep K (Itr lo n) F (rangeD lo n) := fun F' H e1 e2 => by
  refine ⟨fun i d hd => ?_, ?_⟩
  · have hi : i < n := by have := lt_of_get hd; simpa [rangeD] using this
    refine ⟨hi, fun x H' y => ?_⟩
    obtain ⟨rfl, rfl⟩ := y
    have e : d = .int (lo + i) := by
      unfold rangeD at hd
      rw [List.getElem?_map, List.getElem?_range hi] at hd
      exact (Option.some.inj hd).symm
    subst e
    exact ⟨F', .old (.int _)⟩
  · show n ≤ (rangeD lo n).length
    simp [rangeD]
def jRng1 (T : TAp) : TAp := fun ρ Q => T ρ fun ds ρ1 => match ds with | [.int j] => -(2 ^ 62) ≤ j ∧ j < 2 ^ 62 ∧ Q (rangeD 0 j.toNat) ρ1 | _ => False
theorem Reps.int1 {K : PySem.W.Frag} {F : Hp} {vs : List V} {j : Int} (r : Reps K F vs [.int j]) : vs = [.int j] := by
  cases r with
  | cons h t => cases h; cases t; rfl
theorem Reps.int2 {K : PySem.W.Frag} {F : Hp} {vs : List V} {i j : Int} (r : Reps K F vs [.int i, .int j]) : vs = [.int i, .int j] := by
  cases r with
  | cons h t => cases h; rw [t.int1]
theorem ppi_range1 {a : Expr} {ta : TA} {TA' : TAp} {p : Pos} (hg : Gl X "range") (hm : X.mg "range" = none) (ha : PPA X [a] ta TA') (hs : starEach [a] X.env = [(false, eval a X.env)] := by rfl) : PPI X tg (.Call (.Name "range" p) [a] [] pos) (iRng1 ta) (jRng1 TA') := ⟨pi_range1 hg hm ha.pa hs, fun G F H σ ρ Q R S h k =>
  ha.snd G F H σ ρ _ _ S h fun vs ds F' H' ρ' u S' rv q => by
    match ds, rv, q with
    | [.int j], rv, q => exact ⟨j, rv.int1, q.1, q.2.1, k _ _ F' H' ρ' u S' (itrep_range 0 _) q.2.2⟩⟩
theorem get_zipWith {α β γ : Type} {f : α → β → γ} {xs : List α} {ys : List β} {i : Nat} {z : γ} (h : (List.zipWith f xs ys)[i]? = some z) : ∃ x y, xs[i]? = some x ∧ ys[i]? = some y ∧ z = f x y := by
  rw [List.getElem?_zipWith] at h
  cases e1 : xs[i]? with
  | none => rw [e1] at h; simp at h
  | some x =>
    cases e2 : ys[i]? with
    | none => rw [e1, e2] at h; simp at h
    | some y => rw [e1, e2] at h; exact ⟨x, y, rfl, rfl, by simpa using h.symm⟩
def zipD (xs ys : List D) : List D := List.zipWith (fun x y => .tup [x, y]) xs ys
theorem itrep_z2 {K : PySem.W.Frag} {F : Hp} {k1 k2 : Bool} {a b : Addr} {vs ws : List V} {xs ys : List D} (h1 : F a = some (if k1 = true then .lst vs else .tup vs)) (h2 : F b = some (if k2 = true then .lst ws else .tup ws)) (r1 : Reps K F vs xs) (r2 : Reps K F ws ys) : ItRep K (ItZ2 K k1 a k2 b) F (zipD xs ys) := fun F' H e1 e2 => by
  have s1 : SqK K k1 H a vs := sqk_of (e2 _ _ (e1 _ _ h1))
  have s2 : SqK K k2 H b ws := sqk_of (e2 _ _ (e1 _ _ h2))
  refine ⟨fun i d hd => ?_, ⟨vs, ws, s1, s2, by simp [zipD, r1.length, r2.length]⟩⟩
  obtain ⟨x, y, hx, hy, rfl⟩ := get_zipWith hd
  obtain ⟨v, hv, rv⟩ := r1.get hx
  obtain ⟨w, hw, rw'⟩ := r2.get hy
  refine ⟨⟨vs, ws, v, w, s1, s2, hv, hw⟩, fun z H' q => ?_⟩
  obtain ⟨T, v', w', rfl, hT, rfl, f1, f2⟩ := q
  have ev : v' = v := Option.some.inj ((f1 _ s1).symm.trans hv)
  have ew : w' = w := Option.some.inj ((f2 _ s2).symm.trans hw)
  subst ev ew
  have hn : F' T = none := e2.free hT
  exact ⟨_, .new hT (.tup upd_same (.cons ((rv.mono e1).mono (same_new hn)) (.cons ((rw'.mono e1).mono (same_new hn)) .nil)))⟩
def jZ2 (T : TAp) : TAp := fun ρ Q => T ρ fun ds ρ1 => match ds with | [x, y] => asSeq x fun xs => asSeq y fun ys => Q (zipD xs ys) ρ1 | _ => False
theorem ppi_z2 {e e2 : Expr} {ta : TA} {TA' : TAp} {p tpos : Pos} {elts : List Expr} {kk : Nat} (hg : Gl X "zip") (hm : X.mg "zip" = none) (ha : PPA X [e, e2] ta TA')
    (hs : starEach [e, e2] X.env = (false, eval e X.env) :: starEach [e2] X.env := by rfl) (hpl : (backTo pos (starEach [e2] X.env)).any (·.1) = false := by rfl) :
    PPI X (.Tuple elts kk tpos) (.Call (.Name "zip" p) [e, e2] [] pos) (iZ2 X.K ta) (jZ2 TA') := ⟨pi_z2 hg hm ha.pa hs hpl, fun G F H σ ρ Q R S h k =>
  ha.snd G F H σ ρ _ _ S h fun vs ds F' H' ρ' u S' rv q => by
    match ds, rv, q with
    | [x, y], .cons rx (.cons ry .nil), q =>
      obtain ⟨a, k1, ws, xs, rfl, h1, r1, q⟩ := rx.seq q
      obtain ⟨b, k2, zs, ys, rfl, h2, r2, q⟩ := ry.seq q
      exact ⟨k1, k2, a, b, ws, zs, rfl, sqk_of (S'.hF _ _ h1), sqk_of (S'.hF _ _ h2), k _ _ F' H' ρ' u S' (itrep_z2 h1 h2 r1 r2) q⟩⟩
end
def forW (g : TGp) (tb : TSp) (P : PEnds) : List D → Ro → Prop
  | [], ρ => P.nx ρ
  | d :: ds, ρ => g d ρ fun ρ1 => tb { P with nx := forW g tb P ds, ct := forW g tb P ds, bk := P.nx } ρ1
def pFor (Ti : TAp) (g : TGp) (tb : TSp) : TSp := fun P ρ => Ti ρ fun ds ρ1 => forW g tb P ds ρ1
theorem snd_for {K : PySem.W.Frag} {wi : TI} {Ti : TAp} {g : TG} {Gp : TGp} {is : List Nat} {tb : TS} {Tb : TSp} (hi : SndI K wi Ti) (hg : SndG K g Gp is) (hb : SndS K tb Tb) : SndS K (tFor wi g tb) (pFor Ti Gp Tb) := fun G F H σ ρ P D S h r =>
  hi G F H σ ρ _ _ S h fun J ds F1 H1 ρ1 u1 S1 J1 w1 => by
    refine ⟨fun i m σ' H' => m + i = ds.length ∧ ∃ F' ρ', Up G F1 F' ∧ Sim K G F' H' σ' ρ' ∧ forW Gp Tb P (ds.drop i) ρ', ⟨ds.length, by omega, F1, ρ1, .refl _ _, S1, w1⟩, fun i m σ' H' hW => ?_⟩
    obtain ⟨hm, F', ρ', u', S', w'⟩ := hW
    have J' := J1 F' H' u'.ex S'.hF
    by_cases hlt : i < ds.length
    · refine .inr ⟨(J'.1 i ds[i] (List.getElem?_eq_getElem hlt)).1, fun σ'' H'' => ∃ F'' ρ'', Up G F1 F'' ∧ Sim K G F'' H'' σ'' ρ'' ∧ forW Gp Tb P (ds.drop (i + 1)) ρ'', fun σ'' H'' q => ⟨m - 1, by omega, by omega, q⟩, fun x H'' hy => ?_⟩
      obtain ⟨F2, res⟩ := (J'.1 i ds[i] (List.getElem?_eq_getElem hlt)).2 x H'' hy
      obtain ⟨u2, S2, r2⟩ := S'.res res
      rw [List.drop_eq_getElem_cons hlt] at w'
      refine hg G F2 H'' σ' ρ' _ _ x _ S2 r2 w' fun F3 H3 σ3 ρ3 u3 S3 _ _ q3 => hb G F3 H3 σ3 ρ3 _ _ S3 q3 ?_
      have up := (u'.trans u2).trans u3
      exact ⟨fun F4 H4 σ4 ρ4 u4 S4 q4 => ⟨F4, ρ4, up.trans u4, S4, q4⟩, fun F4 H4 σ4 ρ4 v c u4 S4 q4 => r.rt F4 H4 σ4 ρ4 v c (u1.trans (up.trans u4)) S4 q4,
        fun F4 H4 σ4 ρ4 u4 S4 q4 => r.nx F4 H4 σ4 ρ4 (u1.trans (up.trans u4)) S4 q4, fun F4 H4 σ4 ρ4 u4 S4 q4 => ⟨F4, ρ4, up.trans u4, S4, q4⟩⟩
    · have e : i = ds.length := by omega
      subst e
      rw [List.drop_length] at w'
      exact .inl ⟨J'.2, r.nx F' H' σ' ρ' (u1.trans u') S' w'⟩
theorem pps_for {X : Cx} {tg iter : Expr} {body : List Stmt} {wi : TI} {Ti : TAp} {g : TG} {Gp : TGp} {is : List Nat} {tb : TS} {Tb : TSp} {pos : Pos} (hp : PassesOwn (model X.prog X.w) X.A X.env X.xe) (hc : X.calm = true) (hi : PPI X tg iter wi Ti) (hg : PTg X tg g Gp is) (hb : PPSs X body tb Tb)
    (hs : ∀ x, foldedSetIterable iter X.env x = pure x := by intro _; rfl) : PPS X (.For tg iter body [] pos) (tFor wi g tb) (pFor Ti Gp Tb) := ⟨ps_for hp hc hi.pi hg.pg hb.ps hs, snd_for hi.snd hg.snd hb.snd⟩
end Pl
namespace Pl
open PySem PySem.Spec PyProof.Rows L2
variable [TJ]
def valOnly : Option (Option Cell) → Option Cell
  | some (some (.val d)) => some (.val d)
  | _ => none
def wipeP (ρ : Ro) : List Nat → Ro
  | [] => ρ
  | v :: vs => (wipeP ρ vs).set v none
def restore (ρ0 ρ : Ro) : List Nat → Ro
  | [] => ρ
  | v :: vs => (restore ρ0 ρ vs).set v (valOnly ρ0[v]?)
theorem wipe_get {σ : L2.St} : ∀ {vs : List Nat} {j : Nat}, (wipe σ vs)[j]? = if j ∈ vs ∧ j < σ.length then some none else σ[j]?
  | [], j => by simp [wipe]
  | v :: vs, j => by
    show ((wipe σ vs).set v none)[j]? = _
    by_cases h : v = j
    · subst h
      by_cases hl : v < σ.length
      · rw [List.getElem?_set_self (by rw [wipe_length]; exact hl), if_pos ⟨by simp, hl⟩]
      · rw [List.getElem?_eq_none (by simp [wipe_length]; omega), if_neg (fun q => hl q.2), List.getElem?_eq_none (by omega)]
    · rw [List.getElem?_set_ne h, wipe_get]
      have e : (j ∈ v :: vs) ↔ j ∈ vs := by
        constructor
        · intro q
          rcases List.mem_cons.mp q with q | q
          · exact absurd q.symm h
          · exact q
        · exact List.mem_cons_of_mem _
      simp only [e]
theorem wipe_eq {σ σ2 : L2.St} {vs : List Nat} (hl : σ2.length = σ.length) (h : ∀ j, j ∉ vs → σ2[j]? = (wipe σ vs)[j]?) : wipe σ2 vs = wipe σ vs := by
  apply List.ext_getElem?
  intro j
  rw [wipe_get, wipe_get]
  by_cases hj : j ∈ vs
  · by_cases hlt : j < σ.length
    · rw [if_pos ⟨hj, by omega⟩, if_pos ⟨hj, hlt⟩]
    · rw [if_neg (fun q => hlt (by omega)), if_neg (fun q => hlt q.2), List.getElem?_eq_none (by omega), List.getElem?_eq_none (by omega)]
  · have e := h j hj
    rw [wipe_get, if_neg (fun q => hj q.1)] at e
    rw [if_neg (fun q => hj q.1), if_neg (fun q => hj q.1)]
    exact e
section
variable {K : PySem.W.Frag} {G F H : Hp} {σ : L2.St} {ρ : Ro}
theorem Sim.wipe (S : Sim K G F H σ ρ) : ∀ vs : List Nat, Sim K G F H (L2.wipe σ vs) (wipeP ρ vs)
  | [] => S
  | v :: vs => (Sim.wipe S vs).forget v none
theorem Sim.updFree (S : Sim K G F H σ ρ) {p : Addr} {vs ws : List V} (hH : H p = some (.lst vs)) (hF : F p = none) (hG : G p = none) (hn : NotOwn ρ p) : Sim K G F (upd H p (.lst ws)) σ ρ where
  hF := fun a x e => by rw [upd_ne (ne_of_none e hF)]; exact S.hF a x e
  hG := S.hG.mut hG hH
  len := S.len
  val := S.val
  own := fun i a xs e => by
    obtain ⟨h1, h2, h3, vs, h4, h5⟩ := S.own i a xs e
    have q : a ≠ p := fun z => by subst z; exact hn.1 i xs e
    exact ⟨h1, h2, h3, vs, by rw [upd_ne q]; exact h4, h5⟩
  ne := S.ne
  bx := S.bx.upd' hn.2
theorem Sim.guard (S : Sim K G F H σ ρ) {p : Addr} {vs : List V} (hH : H p = some (.lst vs)) (hn : NotOwn ρ p) : Sim K (upd G p (.lst vs)) F H σ ρ where
  hF := S.hF
  hG := S.hG.guard hH
  len := S.len
  val := S.val
  own := fun i a xs e => by
    obtain ⟨h1, h2, h3, h4⟩ := S.own i a xs e
    have q : a ≠ p := fun z => by subst z; exact hn.1 i xs e
    exact ⟨h1, h2, by rw [upd_ne q]; exact h3, h4⟩
  ne := S.ne
  bx := S.bx.guard hn.2
theorem Sim.unguard {G' : Hp} (S : Sim K G' F H σ ρ) (h : Same G G') : Sim K G F H σ ρ where
  hF := S.hF
  hG := S.hG.less h
  len := S.len
  val := S.val
  own := fun i a xs e => by
    obtain ⟨h1, h2, h3, h4⟩ := S.own i a xs e
    exact ⟨h1, h2, h.free h3, h4⟩
  ne := S.ne
  bx := S.bx.unguard h
theorem restore_len (ρ0 ρ : Ro) : ∀ vs : List Nat, (restore ρ0 ρ vs).length = ρ.length
  | [] => rfl
  | v :: vs => by simp [restore, restore_len ρ0 ρ vs]
theorem restore_get {ρ0 ρ : Ro} {c : Cell} : ∀ {vs : List Nat} {j : Nat}, (restore ρ0 ρ vs)[j]? = some (some c) → (j ∈ vs ∧ ∃ d, c = .val d ∧ ρ0[j]? = some (some (.val d))) ∨ (j ∉ vs ∧ ρ[j]? = some (some c))
  | [], j, h => .inr ⟨by simp, h⟩
  | v :: vs, j, h => by
    by_cases hv : v = j
    · subst hv
      refine .inl ⟨by simp, ?_⟩
      have hl : v < (restore ρ0 ρ vs).length := by
        have := lt_of_get h
        simpa [restore] using this
      have h' : ((restore ρ0 ρ vs).set v (valOnly ρ0[v]?))[v]? = some (some c) := h
      rw [List.getElem?_set_self hl] at h'
      have h'' : valOnly ρ0[v]? = some c := Option.some.inj h'
      cases e : ρ0[v]? with
      | none => rw [e] at h''; cases h''
      | some x =>
        rw [e] at h''
        cases x with
        | none => cases h''
        | some y =>
          cases y with
          | val d => cases h''; exact ⟨d, rfl, rfl⟩
          | own a xs => cases h''
          | box t => cases h''
    · have h' : ((restore ρ0 ρ vs).set v (valOnly ρ0[v]?))[j]? = some (some c) := h
      rw [List.getElem?_set_ne hv] at h'
      rcases restore_get h' with ⟨q, r⟩ | ⟨q, r⟩
      · exact .inl ⟨List.mem_cons_of_mem _ q, r⟩
      · refine .inr ⟨fun z => ?_, r⟩
        rcases List.mem_cons.mp z with z | z
        · exact hv z.symm
        · exact q z
theorem Sim.restore {G' F1 H1 : Hp} {σ2 : L2.St} {ρ2 : Ro} {vs : List Nat} (S : Sim K G F H σ ρ) (S2 : Sim K G' F1 H1 σ2 ρ2) (hG : Same G G') (hF : Same F F1) (hl : σ2.length = σ.length) (hj : ∀ j, j ∉ vs → σ2[j]? = σ[j]?) : Sim K G F1 H1 σ (restore ρ ρ2 vs) where
  hF := S2.hF
  hG := S2.hG.less hG
  len := by rw [restore_len, ← S2.len, hl]
  val := fun i d e => by
    rcases restore_get e with ⟨q, d', e', r⟩ | ⟨q, r⟩
    · cases e'
      obtain ⟨v, h1, h2⟩ := S.val i d r
      exact ⟨v, h1, h2.mono hF⟩
    · obtain ⟨v, h1, h2⟩ := S2.val i d r
      exact ⟨v, (hj i q).symm.trans h1, h2⟩
  own := fun i a xs e => by
    rcases restore_get e with ⟨q, d', e', r⟩ | ⟨q, r⟩
    · cases e'
    · obtain ⟨h1, h2, h3, h4⟩ := S2.own i a xs r
      exact ⟨(hj i q).symm.trans h1, h2, hG.free h3, h4⟩
  ne := fun i j a xs ys e1 e2 => by
    rcases restore_get e1 with ⟨_, _, e', _⟩ | ⟨_, r1⟩
    · cases e'
    · rcases restore_get e2 with ⟨_, _, e', _⟩ | ⟨_, r2⟩
      · cases e'
      · exact S2.ne i j a xs ys r1 r2
  bx := S2.bx.to (.refl _) (fun p m => ⟨(S2.bx.free m).1, hG.free (S2.bx.free m).2.1, rfl⟩) (fun i s e => by
    rcases restore_get e with ⟨_, _, e', _⟩ | ⟨q, r⟩
    · cases e'
    · exact ⟨r, (hj i q).symm⟩) fun i a xs e => by
    rcases restore_get e with ⟨_, _, e', _⟩ | ⟨q, r⟩
    · cases e'
    · exact .inl ⟨i, xs, r⟩
theorem restore_box {ρ0 ρ : Ro} {vs : List Nat} {p : Addr} : InBox (restore ρ0 ρ vs) p → InBox ρ p := fun ⟨i, s, e, m⟩ => by
  rcases restore_get e with ⟨_, _, e', _⟩ | ⟨q, r⟩
  · cases e'
  · exact ⟨i, s, r, m⟩
end
def lcW (vs : List Nat) (g : TGp) (tt : TTp) (te : TEp) (Q : List D → Ro → Prop) : List D → List D → Ro → Prop
  | [], acc, ρ => Q acc ρ
  | d :: ds, acc, ρ => g d (wipeP ρ vs) fun ρ2 => tt ρ2 fun b ρ3 => if b = true then te ρ3 fun y ρ4 => acc.length < sizeLine ∧ lcW vs g tt te Q ds (acc ++ [y]) (restore ρ ρ4 vs) else lcW vs g tt te Q ds acc (restore ρ ρ3 vs)
def pLcO (Ti : TAp) (g : TGp) (tt : TTp) (te : TEp) (vs : List Nat) : TCp := fun ρ Q => Ti ρ fun ds ρ1 => lcW vs g tt te (fun acc ρ2 => ∀ a, Q (.own a acc) ρ2) ds [] ρ1
def pLc (Ti : TAp) (g : TGp) (tt : TTp) (te : TEp) (vs : List Nat) : TEp := fun ρ Q => Ti ρ fun ds ρ1 => lcW vs g tt te (fun acc ρ2 => Q (.lst acc) ρ2) ds [] ρ1
theorem snd_lc {K : PySem.W.Frag} {wi : TI} {Ti : TAp} {g : TG} {Gp : TGp} {is : List Nat} {tt : TT} {Tt : TTp} {te : TE} {Te : TEp} {vs : List Nat} (hi : SndI K wi Ti) (hg : SndG K g Gp is) (ht : SndT K tt Tt) (he : SndE K te Te) (hsub : ∀ i ∈ is, i ∈ vs) : SndC K (tLc wi g tt te vs) (pLcO Ti Gp Tt Te vs) := fun G F H σ ρ Q R S h k =>
  hi G F H σ ρ _ _ S h fun J ds F1 H1 ρ1 u1 S1 J1 w1 => fun D hD => by
    refine ⟨fun i m H' => m + i = ds.length ∧ ∃ F' ρ' acc, Up G F1 F' ∧ Sim K G F' H' (σ ++ [some (.ref D)]) (ρ' ++ [some (.own D acc)]) ∧ lcW vs Gp Tt Te (fun acc ρ2 => ∀ a, Q (.own a acc) ρ2) (ds.drop i) acc ρ', ⟨ds.length, by omega, F1, ρ1, [], .refl _ _, S1.newOwn hD .nil, w1⟩, fun i m H' hW => ?_⟩
    obtain ⟨hm, F', ρ', acc, u', S0, w'⟩ := hW
    have S' := S0.drop
    obtain ⟨_, hFD, hGD, hnD, av, hHD, rD⟩ := S0.lastOwn
    have J' := J1 F' H' u'.ex S'.hF
    by_cases hlt : i < ds.length
    · refine .inr ⟨(J'.1 i ds[i] (List.getElem?_eq_getElem hlt)).1, fun H'' => ∃ F'' ρ'' acc, Up G F1 F'' ∧ Sim K G F'' H'' (σ ++ [some (.ref D)]) (ρ'' ++ [some (.own D acc)]) ∧ lcW vs Gp Tt Te (fun acc ρ2 => ∀ a, Q (.own a acc) ρ2) (ds.drop (i + 1)) acc ρ'', fun H'' q => ⟨m - 1, by omega, by omega, q⟩, fun x H'' hy => ?_⟩
      obtain ⟨F2, res⟩ := (J'.1 i ds[i] (List.getElem?_eq_getElem hlt)).2 x H'' hy
      have Sg : Sim K (upd G D (.lst av)) F' H' σ ρ' := S'.guard hHD hnD
      obtain ⟨u2, S2, r2⟩ := Sg.res res
      have hGG : Same G (upd G D (.lst av)) := same_new hGD
      rw [List.drop_eq_getElem_cons hlt] at w'
      refine hg (upd G D (.lst av)) F2 H'' (wipe σ vs) (wipeP ρ' vs) _ _ x _ (S2.wipe vs) r2 w' fun F3 H3 σ3 ρ3 u3 S3 o3 l3 q3 => ?_
      have hl3 : σ3.length = σ.length := by rw [l3, wipe_length]
      have ho3 : ∀ j, j ∉ vs → σ3[j]? = (wipe σ vs)[j]? := fun j hj => o3 j fun z => hj (hsub j z)
      have hoσ : ∀ j, j ∉ vs → σ3[j]? = σ[j]? := fun j hj => by rw [ho3 j hj, wipe_get, if_neg (fun q => hj q.1)]
      refine ⟨wipe_eq hl3 ho3, ht (upd G D (.lst av)) F3 H3 σ3 ρ3 _ _ S3 q3 fun b F4 H4 ρ4 u4 S4 q4 => ?_⟩
      cases b with
      | true =>
        refine ite_ti (he (upd G D (.lst av)) F4 H4 σ3 ρ4 _ _ S4 (ite_t q4) fun y dy F5 H5 ρ5 u5 S5 r5 q5 => ?_)
        have up := ((u2.trans u3).trans u4).trans u5
        have hH5 : H5 D = some (.lst av) := S5.hG D _ upd_same
        have hF5 : F5 D = none := up.isNone hFD upd_same
        have S6 : Sim K G F5 H5 σ (Pl.restore ρ' ρ5 vs) := S'.restore S5 hGG up.ex hl3 hoσ
        have hn6 : NotOwn (Pl.restore ρ' ρ5 vs) D := ⟨fun j xs e => (by
          rcases restore_get e with ⟨_, _, e', _⟩ | ⟨_, r⟩
          · cases e'
          · have := (S5.own j D xs r).2.2.1
            rw [upd_same] at this; cases this), fun m => S5.bx.notG upd_same (restore_box m)⟩
        have r6 : Reps K F5 (av ++ [y]) (acc ++ [dy]) := (rD.mono up.ex).append (.one r5)
        refine ⟨av, hH5, by rw [rD.length]; exact q5.1, F5, _, acc ++ [dy], u'.trans (up.less hGG), ?_, q5.2⟩
        exact (S6.updFree hH5 hF5 hGD hn6).pushOwn upd_same hF5 hGD hn6 r6
      | false =>
        refine ite_fi ⟨F4, _, acc, u'.trans (((u2.trans u3).trans u4).less hGG), ?_, ite_f q4⟩
        have up := (u2.trans u3).trans u4
        have hH4 : H4 D = some (.lst av) := S4.hG D _ upd_same
        have hF4 : F4 D = none := up.isNone hFD upd_same
        have S6 : Sim K G F4 H4 σ (Pl.restore ρ' ρ4 vs) := S'.restore S4 hGG up.ex hl3 hoσ
        have hn6 : NotOwn (Pl.restore ρ' ρ4 vs) D := ⟨fun j xs e => (by
          rcases restore_get e with ⟨_, _, e', _⟩ | ⟨_, r⟩
          · cases e'
          · have := (S4.own j D xs r).2.2.1
            rw [upd_same] at this; cases this), fun m => S4.bx.notG upd_same (restore_box m)⟩
        exact S6.pushOwn hH4 hF4 hGD hn6 (rD.mono up.ex)
    · have e : i = ds.length := by omega
      subst e
      rw [List.drop_length] at w'
      exact .inl ⟨J'.2, k _ _ F' H' ρ' (u1.trans u') S0 (w' D)⟩
structure PPTs (X : Cx) (ifs : List Expr) (t : TT) (T : TTp) : Prop where
  pt : PTs X ifs t
  snd : SndT X.K t T
def pYes : TTp := fun ρ Q => Q true ρ
theorem ppts_nil {X : Cx} : PPTs X [] tYes pYes := ⟨pts_nil, fun G F H σ ρ Q R S h k => k true F H ρ (.refl _ _) S h⟩
section
variable {X : Cx} {elt tg iter : Expr} {ifs : List Expr} {scope : Scope} {own : List (Str × Nat)} {pos : Pos} {wi : TI} {Ti : TAp} {g : TG} {Gp : TGp} {is : List Nat} {tt : TT} {Tt : TTp} {te : TE} {Te : TEp} {vs : List Nat}
theorem ppc_lc (hc : X.calm = true) (hN : X.N.Nodup) (hi : PPI X tg iter wi Ti) (ok : BlkOk X.N X.env.scope scope own)
    (hg : ∀ (s : Shared) (H : Hp) (C : Addr) (cl : List (Str × Addr)) (fp : List Addr), PTg (X.blk s H scope (compEnvC scope cl C X.env) fp) tg g Gp is) (ht : ∀ (s : Shared) (H : Hp) (C : Addr) (cl : List (Str × Addr)) (fp : List Addr), PPTs (X.blk s H scope (compEnvC scope cl C X.env) fp) ifs tt Tt)
    (he : ∀ (s : Shared) (H : Hp) (C : Addr) (cl : List (Str × Addr)) (fp : List Addr), PPE (X.blk s H scope (compEnvC scope cl C X.env) fp) elt te Te) (hs : ∀ x, foldedSetIterable iter X.env x = pure x := by intro _; rfl) (hsub : ∀ i ∈ is, i ∈ own.map (·.2) := by decide) :
    PPC X (.ListComp elt [⟨tg, iter, ifs, 0⟩] scope pos) (tLc wi g tt te (own.map (·.2))) (pLcO Ti Gp Tt Te (own.map (·.2))) := by
  refine ⟨pe_lc hc hN hi.pi ok (fun s H C cl fp => (hg s H C cl fp).pg) (fun s H C cl fp => (ht s H C cl fp).pt) (fun s H C cl fp => (he s H C cl fp).pe) hs, ?_⟩
  exact snd_lc hi.snd (hg X.s_0 (fun _ => none) 0 [] []).snd (ht X.s_0 (fun _ => none) 0 [] []).snd (he X.s_0 (fun _ => none) 0 [] []).snd hsub
theorem snd_lcV {K : PySem.W.Frag} {t : TE} (h : SndC K t (pLcO Ti Gp Tt Te vs)) : SndE K t (pLc Ti Gp Tt Te vs) := fun G F H σ ρ Q R S hT k => h G F H σ ρ (fun c ρ' => Q c.froz ρ') R S (by
    unfold pLcO
    unfold pLc at hT
    have e : (fun (acc : List D) (ρ2 : Ro) => ∀ a : Addr, Q (Cell.froz (.own a acc)) ρ2) = fun acc ρ2 => Q (.lst acc) ρ2 := by
      funext acc ρ2
      exact propext ⟨fun q => q 0, fun q _ => q⟩
    show Ti ρ fun ds ρ1 => lcW vs Gp Tt Te (fun acc ρ2 => ∀ a : Addr, Q (Cell.froz (.own a acc)) ρ2) ds [] ρ1
    rw [e]
    exact hT) fun v c F' H' ρ' u S' q => by
  obtain ⟨F2, u2, S2, r2⟩ := S'.froz
  exact k v _ F2 H' ρ' (u.trans u2) S2 r2 q
theorem ppe_lc (hc : X.calm = true) (hN : X.N.Nodup) (hi : PPI X tg iter wi Ti) (ok : BlkOk X.N X.env.scope scope own)
    (hg : ∀ (s : Shared) (H : Hp) (C : Addr) (cl : List (Str × Addr)) (fp : List Addr), PTg (X.blk s H scope (compEnvC scope cl C X.env) fp) tg g Gp is) (ht : ∀ (s : Shared) (H : Hp) (C : Addr) (cl : List (Str × Addr)) (fp : List Addr), PPTs (X.blk s H scope (compEnvC scope cl C X.env) fp) ifs tt Tt)
    (he : ∀ (s : Shared) (H : Hp) (C : Addr) (cl : List (Str × Addr)) (fp : List Addr), PPE (X.blk s H scope (compEnvC scope cl C X.env) fp) elt te Te) (hs : ∀ x, foldedSetIterable iter X.env x = pure x := by intro _; rfl) (hsub : ∀ i ∈ is, i ∈ own.map (·.2) := by decide) :
    PPE X (.ListComp elt [⟨tg, iter, ifs, 0⟩] scope pos) (tLc wi g tt te (own.map (·.2))) (pLc Ti Gp Tt Te (own.map (·.2))) := by
  have h := ppc_lc (pos := pos) hc hN hi ok hg ht he hs hsub
  exact ⟨h.pe, snd_lcV h.snd⟩
theorem pps_setLc {i : Nat} {y : Str} {py spos : Pos} (hc : X.calm = true) (hN : X.N.Nodup) (hi : PPI X tg iter wi Ti) (ok : BlkOk X.N X.env.scope scope own)
    (hg : ∀ (s : Shared) (H : Hp) (C : Addr) (cl : List (Str × Addr)) (fp : List Addr), PTg (X.blk s H scope (compEnvC scope cl C X.env) fp) tg g Gp is) (ht : ∀ (s : Shared) (H : Hp) (C : Addr) (cl : List (Str × Addr)) (fp : List Addr), PPTs (X.blk s H scope (compEnvC scope cl C X.env) fp) ifs tt Tt)
    (he : ∀ (s : Shared) (H : Hp) (C : Addr) (cl : List (Str × Addr)) (fp : List Addr), PPE (X.blk s H scope (compEnvC scope cl C X.env) fp) elt te Te)
    (hy : X.N[i]? = some y := by rfl) (hyl : X.env.scope.names.lookup y = some .local := by rfl)
    (hsw : swapsWith (.ListComp elt [⟨tg, iter, ifs, 0⟩] scope pos) (some (.Name y py)) spos.line X.env = pure true := by exact sw_true rfl rfl rfl (by decide +kernel)) (hs : ∀ x, foldedSetIterable iter X.env x = pure x := by intro _; rfl) (hsub : ∀ i ∈ is, i ∈ own.map (·.2) := by decide) :
    PPS X (.Assign [.Name y py] (.ListComp elt [⟨tg, iter, ifs, 0⟩] scope pos) spos) (tAsg (tLc wi g tt te (own.map (·.2))) (gName i)) (pSet i (pLcO Ti Gp Tt Te (own.map (·.2)))) := by
  have h := ppc_lc (pos := pos) hc hN hi ok hg ht he hs hsub
  exact ⟨ps_setLc hc hN hy hyl hsw hi.pi ok (fun s H C cl fp => (hg s H C cl fp).pg) (fun s H C cl fp => (ht s H C cl fp).pt) (fun s H C cl fp => (he s H C cl fp).pe) hs, snd_set h.snd⟩
end
end Pl
namespace Pl
open PySem PySem.Spec PyProof.Rows L2
variable [TJ]
section
variable {X : Cx} {a b : Expr} {ta tb : TE} {Ta Tb : TEp} {pos : Pos}
theorem Reps.atI {K : PySem.W.Frag} {F : Hp} {vs : List V} {ds : List D} {i : Int} {d : D} (r : Reps K F vs ds) (h : atI ds i = some d) : ∃ v, L2.atI vs i = some v ∧ Rep K F v d := by
  unfold L2.atI at h ⊢
  rw [r.length]
  cases e : ixN ds.length i with
  | none => rw [e] at h; cases h
  | some j => rw [e] at h; exact r.get h
theorem atI_ints {ns : List Int} {i n : Int} (h : L2.atI ns i = some n) : L2.atI (ns.map V.int) i = some (V.int n) := by
  unfold L2.atI at h ⊢
  rw [List.length_map]
  cases e : ixN ns.length i with
  | none => rw [e] at h; cases h
  | some j =>
    rw [e] at h
    show (ns.map V.int)[j]? = some (V.int n)
    have h' : ns[j]? = some n := h
    rw [List.getElem?_map, h']; rfl
def rIxA (K : PySem.W.Frag) : R2 := fun x y H Q => rIxL K x y H Q ∨ (rIxT K x y H Q ∨ rIxS x y H Q)
theorem ix_any : IxR X (rIxA X.K) := IxR.or ix_list (IxR.or ix_tup ix_str)
def fIx : F2 := fun x y Q => match x, y with
  | .lst xs, .int i => ∃ v, atI xs i = some v ∧ Q v
  | .tup xs, .int i => ∃ v, atI xs i = some v ∧ Q v
  | .scr ns, .int i => ∃ n, atI ns i = some n ∧ Q (.int n)
  | .str z, .int i => z.length ≤ sizeLine ∧ ∃ c, atI z.cps.toList i = some c ∧ Q (.str ⟨#[c]⟩)
  | _, _ => False
theorem opp_ix {K : PySem.W.Frag} : OpP K (rIxA K) fIx := fun F H x y dx dy Q R hs rx ry hf k => by
  cases rx with
  | lst h1 r1 =>
    cases ry with
    | int i =>
      obtain ⟨d, e, q⟩ := hf
      obtain ⟨v, e', r⟩ := r1.atI e
      exact .inl ⟨_, _, i, v, rfl, rfl, SqL.of (hs _ _ h1), e', k _ _ _ _ (.old r) q⟩
    | _ => exact hf.elim
  | tup h1 r1 =>
    cases ry with
    | int i =>
      obtain ⟨d, e, q⟩ := hf
      obtain ⟨v, e', r⟩ := r1.atI e
      exact .inr (.inl ⟨_, _, i, v, rfl, rfl, SqT.of (hs _ _ h1), e', k _ _ _ _ (.old r) q⟩)
    | _ => exact hf.elim
  | scr h1 =>
    cases ry with
    | int i =>
      obtain ⟨n, e, q⟩ := hf
      exact .inl ⟨_, _, i, _, rfl, rfl, hs.seq h1, atI_ints e, k _ _ _ _ (.old (.int _)) q⟩
    | _ => exact hf.elim
  | str z =>
    cases ry with
    | int i =>
      obtain ⟨hz, c, e, q⟩ := hf
      exact .inr (.inr ⟨z, i, c, rfl, rfl, hz, e, k _ _ _ _ (.old (.str _)) q⟩)
    | _ => exact hf.elim
  | _ => exact hf.elim
theorem ppe_ix (ha : PPE X a ta Ta) (hb : PPE X b tb Tb) (hs : PlainIx b := by exact fun _ _ => rfl) : PPE X (.Subscript a b pos) (tOp (rIxA X.K) ta tb) (pOp fIx Ta Tb) := ⟨pe_ix ix_any ha.pe hb.pe hs, snd_op opp_ix ha.snd hb.snd⟩
def pIxO (i : Nat) (Tb : TEp) : TEp := fun ρ Q => match ρ[i]? with
  | some (some (.own a _)) => Tb ρ fun y ρ1 => ∃ xs1 k v, ρ1[i]? = some (some (.own a xs1)) ∧ y = .int k ∧ atI xs1 k = some v ∧ Q v ρ1
  | some (some (.val d)) => Tb ρ fun y ρ1 => fIx d y fun z => Q z ρ1
  | _ => False
theorem ppe_ixO (i : Nat) {x : Str} {p : Pos} (hb : PPE X b tb Tb) (hs : PlainIx b := by exact fun _ _ => rfl) (hN : X.N[i]? = some x := by rfl) (hv : Vis X.env.scope x := by first | exact Or.inl rfl | exact Or.inr (Or.inl rfl) | exact Or.inr (Or.inr rfl)) (hd : (x == ("__debug__" : Str)) = false := by decide)
    (hcd : (x == ("__classdict__" : Str)) = false := by decide) : PPE X (.Subscript (.Name x p) b pos) (tOp (rIxA X.K) (tVar i) tb) (pIxO i Tb) := ⟨pe_ix ix_any (pe_var hN hv hd hcd) hb.pe hs, fun G F H σ ρ Q R S hT k => by
  unfold pIxO at hT
  split at hT
  · rename_i a xs e
    refine ⟨.ref a, (S.own i a xs e).1, hb.snd G F H σ ρ _ _ S hT fun y dy F1 H1 ρ1 u1 S1 r1 q1 => ?_⟩
    obtain ⟨xs1, kk, v, e1, rfl, e2, q⟩ := q1
    obtain ⟨h1, h2, h3, vs, h4, h5⟩ := S1.own i a xs1 e1
    obtain ⟨w, ew, rw'⟩ := h5.atI e2
    cases r1
    exact .inl ⟨a, vs, kk, w, rfl, rfl, SqL.of h4, ew, k _ _ F1 H1 ρ1 u1 S1 rw' q⟩
  · rename_i d e
    obtain ⟨v, h1, h2⟩ := S.val i d e
    refine ⟨v, h1, hb.snd G F H σ ρ _ _ S hT fun y dy F1 H1 ρ1 u1 S1 r1 q1 => ?_⟩
    refine opp_ix F1 H1 v y d dy _ _ S1.hF (h2.mono u1.ex) r1 q1 fun w dw F2 H2 res q => ?_
    obtain ⟨u2, S2, r2⟩ := S1.res res
    exact k w dw F2 H2 ρ1 (u1.trans u2) S2 r2 q
  · exact hT.elim⟩
theorem Reps.cut {K : PySem.W.Frag} {F : Hp} {vs : List V} {ds : List D} (r : Reps K F vs ds) (lo hi : Option Int) : Reps K F (cutV vs lo hi) ((ds.drop (HT.sIx ds.length 0 lo)).take (HT.sIx ds.length ds.length hi - HT.sIx ds.length 0 lo)) := by
  unfold cutV
  rw [r.length]
  exact (r.drop _).take _
def cutD (xs : List D) (lo hi : Option Int) : List D := (xs.drop (HT.sIx xs.length 0 lo)).take (HT.sIx xs.length xs.length hi - HT.sIx xs.length 0 lo)
def rSlX (K : PySem.W.Frag) : V → Option Int → Option Int → Hp → VK → Prop := fun x lo hi H Q => rSlL K x lo hi H Q ∨ rSlA K x lo hi H Q
theorem sl_any : SlR X (rSlX X.K) := SlR.or sl_list sl_tupA
abbrev TOp := Ro → (Option Int → Ro → Prop) → Prop
def pNoPart : TOp := fun ρ Q => Q none ρ
def pPart (T : TEp) : TOp := fun ρ Q => T ρ fun x ρ1 => match x with | .int i => Q (some i) ρ1 | _ => False
def SndO (K : PySem.W.Frag) (t : TO) (T : TOp) : Prop := ∀ (G F H : Hp) (σ : L2.St) (ρ : Ro) (Q : Option Int → Ro → Prop) (R : Option Int → Hp → Prop), Sim K G F H σ ρ → T ρ Q →
  (∀ o F' H' ρ', Up G F F' → Sim K G F' H' σ ρ' → Q o ρ' → R o H') → t σ H R
structure PPO (X : Cx) (e : Option Expr) (t : TO) (T : TOp) : Prop where
  po : PO X e t
  snd : SndO X.K t T
theorem ppo_none : PPO X none tNoPart pNoPart := ⟨po_none, fun G F H σ ρ Q R S h k => k none F H ρ (.refl _ _) S h⟩
theorem ppo_some (h : PPE X a ta Ta) : PPO X (some a) (tPart ta) (pPart Ta) := ⟨po_some h.pe, fun G F H σ ρ Q R S hT k => h.snd G F H σ ρ _ _ S hT fun v d F' H' ρ' u S' r q => by
  cases r with
  | int i => exact ⟨i, rfl, k _ F' H' ρ' u S' q⟩
  | _ => exact q.elim⟩
def fSl (x : D) (lo hi : Option Int) (Q : D → Prop) : Prop := match x with
  | .lst xs => Q (.lst (cutD xs lo hi))
  | .tup xs => Q (.tup (cutD xs lo hi))
  | _ => False
theorem cutD_all {xs : List D} {lo hi : Option Int} (h : HT.sIx xs.length 0 lo = 0 ∧ HT.sIx xs.length xs.length hi = xs.length) : cutD xs lo hi = xs := by
  unfold cutD
  rw [h.1, h.2]
  simp
def pSl (Te : TEp) (Tl Th : TOp) : TEp := fun ρ Q => Te ρ fun x ρ1 => Tl ρ1 fun l ρ2 => Th ρ2 fun u ρ3 => fSl x l u fun z => Q z ρ3
theorem ppe_slice {lo hi : Option Expr} {tl th : TO} {Tl Th : TOp} {p2 : Pos} (ha : PPE X a ta Ta) (hl : PPO X lo tl Tl) (hh : PPO X hi th Th) : PPE X (.Subscript a (.Slice lo hi none p2) pos) (tSl (rSlX X.K) ta tl th) (pSl Ta Tl Th) := ⟨pe_slice sl_any ha.pe hl.po hh.po, fun G F H σ ρ Q R S hT k =>
  ha.snd G F H σ ρ _ _ S hT fun v d F1 H1 ρ1 u1 S1 r1 q1 => hl.snd G F1 H1 σ ρ1 _ _ S1 q1 fun l F2 H2 ρ2 u2 S2 q2 => hh.snd G F2 H2 σ ρ2 _ _ S2 q2 fun h F3 H3 ρ3 u3 S3 q3 => by
    have r3 := (r1.mono u2.ex).mono u3.ex
    have up := (u1.trans u2).trans u3
    cases r3 with
    | lst e r =>
      refine .inl ⟨_, _, rfl, SqL.of (S3.hF _ _ e), fun p hp => k _ _ _ _ ρ3 (up.trans (S3.upNew hp)) (S3.new hp) (.lst upd_same ((r.mono (same_new (S3.freshF hp))).cut l h)) q3⟩
    | tup e r =>
      refine .inr ⟨_, _, rfl, SqT.of (S3.hF _ _ e), fun hw => ?_, fun _ p hp => k _ _ _ _ ρ3 (up.trans (S3.upNew hp)) (S3.new hp) (.tup upd_same ((r.mono (same_new (S3.freshF hp))).cut l h)) q3⟩
      rw [r.length] at hw
      have q3' : Q _ ρ3 := q3
      rw [cutD_all hw] at q3'
      exact k _ _ F3 H3 ρ3 up S3 (.tup e r) q3'
    | _ => exact q3.elim⟩
def fRev (x : D) (Q : D → Prop) : Prop := match x with
  | .lst xs => Q (.lst xs.reverse)
  | .tup xs => Q (.tup xs.reverse)
  | _ => False
theorem ppe_rev {k : Nat} {p1 p2 p3 : Pos} (ha : PPE X a ta Ta) : PPE X (.Subscript a (.Slice none none (some (.UnaryOp .USub (.Constant (.int 1) k p1) p2)) p3) pos) (tRevA X.K ta) (pUn fRev Ta) := ⟨pe_revA ha.pe, fun G F H σ ρ Q R S hT kk =>
  ha.snd G F H σ ρ _ _ S hT fun v d F1 H1 ρ1 u1 S1 r1 q1 => by
    cases r1 with
    | lst e r => exact ⟨_, _, rfl, .inl ⟨SqL.of (S1.hF _ _ e), fun p hp => kk _ _ _ _ ρ1 (u1.trans (S1.upNew hp)) (S1.new hp) (.lst upd_same (r.mono (same_new (S1.freshF hp))).reverse) q1⟩⟩
    | tup e r => exact ⟨_, _, rfl, .inr ⟨SqT.of (S1.hF _ _ e), fun p hp => kk _ _ _ _ ρ1 (u1.trans (S1.upNew hp)) (S1.new hp) (.tup upd_same (r.mono (same_new (S1.freshF hp))).reverse) q1⟩⟩
    | _ => exact q1.elim⟩
abbrev FC := List D → (D → Prop) → Prop
theorem Reps.inv1 {K : PySem.W.Frag} {F : Hp} {vs : List V} {d : D} (r : Reps K F vs [d]) : ∃ v, vs = [v] ∧ Rep K F v d := by
  cases r with | cons h t => cases t; exact ⟨_, rfl, h⟩
theorem Rep.lstInv {K : PySem.W.Frag} {F : Hp} {v : V} {xs : List D} (r : Rep K F v (.lst xs)) : ∃ a vs, v = .ref a ∧ F a = some (.lst vs) ∧ Reps K F vs xs := by
  cases r with | lst e r => exact ⟨_, _, rfl, e, r⟩
theorem Rep.tupInv {K : PySem.W.Frag} {F : Hp} {v : V} {xs : List D} (r : Rep K F v (.tup xs)) : ∃ a vs, v = .ref a ∧ F a = some (.tup vs) ∧ Reps K F vs xs := by
  cases r with | tup e r => exact ⟨_, _, rfl, e, r⟩
theorem Rep.intInv {K : PySem.W.Frag} {F : Hp} {v : V} {i : Int} (r : Rep K F v (.int i)) : v = .int i := by cases r; rfl
theorem Rep.blInv {K : PySem.W.Frag} {F : Hp} {v : V} {i : Bool} (r : Rep K F v (.bl i)) : v = .bl i := by cases r; rfl
theorem Rep.strInv {K : PySem.W.Frag} {F : Hp} {v : V} {i : Str} (r : Rep K F v (.str i)) : v = .str i := by cases r; rfl
theorem Rep.scrInv {K : PySem.W.Frag} {F : Hp} {v : V} {ns : List Int} (r : Rep K F v (.scr ns)) : ∃ a, v = .ref a ∧ SqL K F a (ns.map V.int) := by cases r with | scr h => exact ⟨_, rfl, h⟩
def fLen : FC := fun ds Q => match ds with
  | [.lst xs] => Q (.int xs.length)
  | [.tup xs] => Q (.int xs.length)
  | [.scr ns] => Q (.int ns.length)
  | [.str z] => z.length ≤ sizeLine ∧ Q (.int z.length)
  | _ => False
def rLenA (K : PySem.W.Frag) : List V → Hp → VK → Prop := fun xs H Q => (∃ p ys, xs = [.ref p] ∧ (SqL K H p ys ∨ SqT K H p ys) ∧ Q (.int ys.length) H) ∨ (∃ z, xs = [.str z] ∧ z.length ≤ sizeLine ∧ Q (.int z.length) H)
theorem cr_lenA : CallR X (.builtin "len") (rLenA X.K) := CallR.or call_len_seq call_len_str
theorem cp_len {K : PySem.W.Frag} : CallP K (rLenA K) fLen := fun F H xs ds Q R hs r hf k => by
  unfold fLen at hf
  split at hf
  · obtain ⟨v, rfl, q1⟩ := r.inv1
    obtain ⟨a, vs, rfl, e, q2⟩ := q1.lstInv
    exact .inl ⟨a, vs, rfl, .inl (SqL.of (hs _ _ e)), by rw [q2.length]; exact k _ _ _ _ (.old (.int _)) hf⟩
  · obtain ⟨v, rfl, q1⟩ := r.inv1
    obtain ⟨a, vs, rfl, e, q2⟩ := q1.tupInv
    exact .inl ⟨a, vs, rfl, .inr (SqT.of (hs _ _ e)), by rw [q2.length]; exact k _ _ _ _ (.old (.int _)) hf⟩
  · obtain ⟨v, rfl, q1⟩ := r.inv1
    obtain ⟨a, rfl, e⟩ := q1.scrInv
    exact .inl ⟨a, _, rfl, .inl (hs.seq e), by rw [List.length_map]; exact k _ _ _ _ (.old (.int _)) hf⟩
  · obtain ⟨v, rfl, q1⟩ := r.inv1
    have := q1.strInv
    subst this
    exact .inr ⟨_, rfl, hf.1, k _ _ _ _ (.old (.int _)) hf.2⟩
  · exact hf.elim
def pLenO (i : Nat) : TEp := fun ρ Q => match ρ[i]? with
  | some (some (.own _ xs)) => Q (.int xs.length) ρ
  | some (some (.val d)) => fLen [d] fun z => Q z ρ
  | _ => False
theorem ppe_lenO (i : Nat) {x : Str} {p q : Pos} (hg : Gl X "len") (hm : X.mg "len" = none) (hN : X.N[i]? = some x := by rfl) (hv : Vis X.env.scope x := by first | exact Or.inl rfl | exact Or.inr (Or.inl rfl) | exact Or.inr (Or.inr rfl)) (hd : (x == ("__debug__" : Str)) = false := by decide)
    (hcd : (x == ("__classdict__" : Str)) = false := by decide) (he : starEach [.Name x q] X.env = [(false, eval (.Name x q) X.env)] := by rfl) : PPE X (.Call (.Name "len" p) [.Name x q] [] pos) (tCB (rLenA X.K) (tCons (tVar i) tNil)) (pLenO i) := ⟨pe_callB cr_lenA hg hm PySem.boot_len (pa_cons (pe_var hN hv hd hcd) pa_nil (by rw [he]; rfl)) (by decide) (by decide) (by rw [he]; rfl) rfl, fun G F H σ ρ Q R S hT k => by
  unfold pLenO at hT
  split at hT
  · rename_i a xs e
    obtain ⟨h1, h2, h3, vs, h4, h5⟩ := S.own i a xs e
    exact ⟨.ref a, h1, .inl ⟨a, vs, rfl, .inl (SqL.of h4), by rw [h5.length]; exact k _ _ F H ρ (.refl _ _) S (.int _) hT⟩⟩
  · rename_i d e
    obtain ⟨v, h1, h2⟩ := S.val i d e
    refine ⟨v, h1, ?_⟩
    refine cp_len F H [v] [d] _ _ S.hF (.cons h2 .nil) hT fun w dw F2 H2 res q => ?_
    obtain ⟨u2, S2, r2⟩ := S.res res
    exact k w dw F2 H2 ρ u2 S2 r2 q
  · exact hT.elim⟩
def iabs (i : Int) : Int := if i < 0 then -i else i
def fAbs : FC := fun ds Q => match ds with | [.int i] => Q (.int (iabs i)) | _ => False
theorem cp_abs {K : PySem.W.Frag} : CallP K (fun xs H Q => ∃ i, xs = [.int i] ∧ Q (.int (if i < 0 then -i else i)) H) fAbs := fun F H xs ds Q R hs r hf k => by
  unfold fAbs at hf
  split at hf
  · rw [r.int1]
    exact ⟨_, rfl, k _ _ _ _ (.old (.int _)) hf⟩
  · exact hf.elim
def fMin2 : FC := fun ds Q => match ds with | [.int i, .int j] => Q (.int (min i j)) | _ => False
theorem cp_min2 {K : PySem.W.Frag} : CallP K (fun xs H Q => ∃ i j, xs = [.int i, .int j] ∧ Q (.int (if j < i then j else i)) H) fMin2 := fun F H xs ds Q R hs r hf k => by
  unfold fMin2 at hf
  split at hf
  · rename_i i j
    rw [r.int2]
    refine ⟨i, j, rfl, ?_⟩
    rw [show (if j < i then j else i) = min i j by split <;> omega]
    exact k _ _ _ _ (.old (.int _)) hf
  · exact hf.elim
def fBest (g : Int → Int → Int) : FC := fun ds Q => match ds with
  | [.lst xs] => ∃ n ns, xs = (n :: ns).map D.int ∧ Q (.int (ns.foldl g n))
  | [.tup xs] => ∃ n ns, xs = (n :: ns).map D.int ∧ Q (.int (ns.foldl g n))
  | _ => False
theorem cp_best {K : PySem.W.Frag} {g : Int → Int → Int} : CallP K (rBest K g) (fBest g) := fun F H xs ds Q R hs r hf k => by
  unfold fBest at hf
  split at hf
  · obtain ⟨v, rfl, q1⟩ := r.inv1
    obtain ⟨a, vs, rfl, e, q2⟩ := q1.lstInv
    obtain ⟨n, ns, rfl, q⟩ := hf
    have := q2.ints
    subst this
    exact ⟨a, n, ns, rfl, .inl (SqL.of (hs _ _ e)), k _ _ _ _ (.old (.int _)) q⟩
  · obtain ⟨v, rfl, q1⟩ := r.inv1
    obtain ⟨a, vs, rfl, e, q2⟩ := q1.tupInv
    obtain ⟨n, ns, rfl, q⟩ := hf
    have := q2.ints
    subst this
    exact ⟨a, n, ns, rfl, .inr (SqT.of (hs _ _ e)), k _ _ _ _ (.old (.int _)) q⟩
  · exact hf.elim
def fInt1 : FC := fun ds Q => match ds with
  | [.int i] => Q (.int i)
  | [.bl b] => Q (.int (if b = true then 1 else 0))
  | _ => False
theorem cp_int1 {K : PySem.W.Frag} : CallP K (fun xs H Q => (∃ i, xs = [.int i] ∧ Q (.int i) H) ∨ ∃ k, xs = [.bl k] ∧ Q (.int (if k then 1 else 0)) H) fInt1 := fun F H xs ds Q R hs r hf k => by
  unfold fInt1 at hf
  split at hf
  · rw [r.int1]; exact .inl ⟨_, rfl, k _ _ _ _ (.old (.int _)) hf⟩
  · obtain ⟨v, rfl, q1⟩ := r.inv1
    have := q1.blInv
    subst this
    exact .inr ⟨_, rfl, k _ _ _ _ (.old (.int _)) hf⟩
  · exact hf.elim
def fAll : FC := fun ds Q => match ds with | [.lst xs] => ∃ bs : List Bool, xs = bs.map D.bl ∧ Q (.bl (bs.all id)) | _ => False
theorem cp_all {K : PySem.W.Frag} : CallP K (rAll K) fAll := fun F H xs ds Q R hs r hf k => by
  unfold fAll at hf
  split at hf
  · obtain ⟨v, rfl, q1⟩ := r.inv1
    obtain ⟨a, vs, rfl, e, q2⟩ := q1.lstInv
    obtain ⟨bs, rfl, q⟩ := hf
    have := q2.bls
    subst this
    exact ⟨a, bs, rfl, SqL.of (hs _ _ e), k _ _ _ _ (.old (.bl _)) q⟩
  · exact hf.elim
def fTup : FC := fun ds Q => match ds with
  | [.lst xs] => Q (.tup xs)
  | [.tup xs] => Q (.tup xs)
  | _ => False
theorem cp_tup {K : PySem.W.Frag} : CallP K (fun xs H Q => ∃ p ys, xs = [.ref p] ∧ ((SqL K H p ys ∧ ∀ l, H l = none → Q (.ref l) (upd H l (.tup ys))) ∨ (SqT K H p ys ∧ Q (.ref p) H))) fTup := fun F H xs ds Q R hs r hf k => by
  unfold fTup at hf
  split at hf
  · obtain ⟨v, rfl, q1⟩ := r.inv1
    obtain ⟨a, vs, rfl, e, q2⟩ := q1.lstInv
    exact ⟨a, vs, rfl, .inl ⟨SqL.of (hs _ _ e), fun l hl => k _ _ _ _ (.new hl (.tup upd_same (q2.mono (same_new (hs.free hl))))) hf⟩⟩
  · obtain ⟨v, rfl, q1⟩ := r.inv1
    obtain ⟨a, vs, rfl, e, q2⟩ := q1.tupInv
    exact ⟨a, vs, rfl, .inr ⟨SqT.of (hs _ _ e), k _ _ _ _ (.old (.tup e q2)) hf⟩⟩
  · exact hf.elim
def fLst : FC := fun ds Q => match ds with
  | [.lst xs] => Q (.lst xs)
  | [.tup xs] => Q (.lst xs)
  | [.scr ns] => Q (.lst (ns.map D.int))
  | _ => False
def rLstA (K : PySem.W.Frag) : List V → Hp → VK → Prop := fun xs H Q => ∃ p ys, xs = [.ref p] ∧ (SqL K H p ys ∨ SqT K H p ys) ∧ ∀ l, H l = none → Q (.ref l) (upd H l (.lst ys))
theorem cp_lst {K : PySem.W.Frag} : CallP K (rLstA K) fLst := fun F H xs ds Q R hs r hf k => by
  unfold fLst at hf
  split at hf
  · obtain ⟨v, rfl, q1⟩ := r.inv1
    obtain ⟨a, vs, rfl, e, q2⟩ := q1.lstInv
    exact ⟨a, vs, rfl, .inl (SqL.of (hs _ _ e)), fun l hl => k _ _ _ _ (.new hl (.lst upd_same (q2.mono (same_new (hs.free hl))))) hf⟩
  · obtain ⟨v, rfl, q1⟩ := r.inv1
    obtain ⟨a, vs, rfl, e, q2⟩ := q1.tupInv
    exact ⟨a, vs, rfl, .inr (SqT.of (hs _ _ e)), fun l hl => k _ _ _ _ (.new hl (.lst upd_same (q2.mono (same_new (hs.free hl))))) hf⟩
  · obtain ⟨v, rfl, q1⟩ := r.inv1
    obtain ⟨a, rfl, e⟩ := q1.scrInv
    exact ⟨a, _, rfl, .inl (hs.seq e), fun l hl => k _ _ _ _ (.new hl (.lst upd_same (Reps.ofInts _))) hf⟩
  · exact hf.elim
end
section
variable {X : Cx} {e : Expr} {te : TE} {Te : TEp} {pos : Pos}
def pAppend (i : Nat) (Te : TEp) : TSp := fun P ρ => match ρ[i]? with
  | some (some (.own a _)) => Te ρ fun y ρ1 => ∃ xs1, ρ1[i]? = some (some (.own a xs1)) ∧ xs1.length < sizeLine ∧ P.nx (ρ1.set i (some (.own a (xs1 ++ [y]))))
  | _ => False
theorem pps_append (i : Nat) {x : Str} {p ap cp : Pos} (he : PPE X e te Te) (hN : X.N[i]? = some x := by rfl) (hv : Vis X.env.scope x := by first | exact Or.inl rfl | exact Or.inr (Or.inl rfl) | exact Or.inr (Or.inr rfl)) (hd : (x == ("__debug__" : Str)) = false := by decide)
    (hcd : (x == ("__classdict__" : Str)) = false := by decide)
    (hbase : attributeBase (.Name x p) "append" X.env (eval (.Name x p) X.env) = eval (.Name x p) X.env := by rfl)
    (hfew : ((backTo cp (starEach [e] X.env)).all (fun x => !x.1) && (backToKw cp (keywordEach [] X.env)).all (fun x => x.1.isSome)
      && decide ([e].length + ([] : List Keyword).length + (if ([] : List Keyword).isEmpty then 0 else 1) < 30)) = true := by rfl)
    (hline : (ap.endLine == cp.line) = true := by rfl) (hs : starEach [e] X.env = (false, eval e X.env) :: starEach [] X.env := by rfl)
    (hsw : swapsWith (.Call (.Attribute (.Name x p) "append" ap) [e] [] cp) none pos.line X.env = pure false := by rfl) :
    PPS X (.Expr (.Call (.Attribute (.Name x p) "append" ap) [e] [] cp) pos) (tDrop (tBM X.K "list" rAppend (tVar i) (tCons te tNil))) (pAppend i Te) := ⟨ps_expr (pe_bm PySem.F.plainAttrs_list PySem.F.slot_list_append PySem.F.type_list_append mt_append (pe_var hN hv hd hcd) (pa_cons he.pe pa_nil hs) hbase hfew hline hs rfl) hsw, fun G F H σ ρ P D S hT r => by
  unfold pAppend at hT
  split at hT
  · rename_i a xs e0
    obtain ⟨h1, h2, h3, vs, h4, h5⟩ := S.own i a xs e0
    refine ⟨.ref a, h1, .inl ⟨rfl, _, SqL.of h4⟩, he.snd G F H σ ρ _ _ S hT fun y dy F1 H1 ρ1 u1 S1 r1 q1 => ?_⟩
    obtain ⟨xs1, e1, hz, q⟩ := q1
    obtain ⟨g1, g2, g3, ws, g4, g5⟩ := S1.own i a xs1 e1
    exact ⟨a, ws, y, rfl, rfl, g4, by rw [g5.length]; exact hz, r.nx F1 _ _ _ u1 (S1.mut e1 (g5.append (.one r1))) q⟩
  · exact hT.elim⟩
def pStore (i : Nat) (Ti Te : TEp) : TSp := fun P ρ => Te ρ fun y ρ1 => match ρ1[i]? with
  | some (some (.own a _)) => Ti ρ1 fun k ρ2 => ∃ xs1 n j, ρ2[i]? = some (some (.own a xs1)) ∧ k = .int n ∧ ixN xs1.length n = some j ∧ P.nx (ρ2.set i (some (.own a (xs1.set j y))))
  | _ => False
theorem pps_store (i : Nat) {x : Str} {p sp : Pos} {ix : Expr} {ti : TE} {Ti : TEp} (hi : PPE X ix ti Ti) (he : PPE X e te Te) (hN : X.N[i]? = some x := by rfl) (hv : Vis X.env.scope x := by first | exact Or.inl rfl | exact Or.inr (Or.inl rfl) | exact Or.inr (Or.inr rfl)) (hd : (x == ("__debug__" : Str)) = false := by decide)
    (hcd : (x == ("__classdict__" : Str)) = false := by decide)
    (ha : ∀ v, assign (.Subscript (.Name x p) ix sp) X.env v = (do
      let ov ← holding [v] (eval (.Name x p) X.env)
      let iv ← holding [v, ov] (eval ix X.env)
      standAt sp
      holding [v, ov, iv] (setItem ov iv v)
      release [v, ov, iv] []) := by intro _; rfl)
    (hs : swapsWithSole [.Subscript (.Name x p) ix sp] e pos.line X.env = pure false := by rfl) (hw : swappedStores [.Subscript (.Name x p) ix sp] e X.env = pure none := by rfl)
    (h1 : (assignEach [.Subscript (.Name x p) ix sp] X.env).map (·.2) = [assign (.Subscript (.Name x p) ix sp) X.env] := by rfl) :
    PPS X (.Assign [.Subscript (.Name x p) ix sp] e pos) (tAsg te (gSub (tVar i) ti rSetL)) (pStore i Ti Te) := ⟨ps_asg he.pe (pg_sub (pe_var hN hv hd hcd) hi.pe set_list ha) hs hw h1, fun G F H σ ρ P D S hT r =>
  he.snd G F H σ ρ _ _ S hT fun y dy F1 H1 ρ1 u1 S1 r1 q1 => by
    have q1' : (match ρ1[i]? with
      | some (some (.own a _)) => Ti ρ1 fun k ρ2 => ∃ xs1 n j, ρ2[i]? = some (some (.own a xs1)) ∧ k = .int n ∧ ixN xs1.length n = some j ∧ P.nx (ρ2.set i (some (.own a (xs1.set j dy))))
      | _ => False) := q1
    split at q1'
    · rename_i a xs e0
      obtain ⟨h1, h2, h3, vs, h4, h5⟩ := S1.own i a xs e0
      refine ⟨.ref a, h1, hi.snd G F1 H1 σ ρ1 _ _ S1 q1' fun w dw F2 H2 ρ2 u2 S2 r2 q2 => ?_⟩
      obtain ⟨xs1, n, j, e1, rfl, ej, q⟩ := q2
      obtain ⟨g1, g2, g3, ws, g4, g5⟩ := S2.own i a xs1 e1
      have := r2.intInv
      subst this
      exact ⟨a, ws, n, j, rfl, rfl, g4, by rw [g5.length]; exact ej, r.nx F2 _ _ _ (u1.trans u2) (S2.mut e1 (g5.set (r1.mono u2.ex) j)) q⟩
    · exact q1'.elim⟩
end
end Pl
namespace Pl
open PySem PySem.Spec PyProof.Rows L2
abbrev FA := List D → (Cell → Prop) → Prop
abbrev FB := List D → List D → (Cell → List D → Prop) → Prop
def hide (H : Hp) (a : Addr) : Hp := fun b => if b = a then none else H b
theorem hide_same (H : Hp) (a : Addr) : Same (hide H a) H := fun b o e => by
  unfold hide at e
  by_cases h : b = a
  · rw [if_pos h] at e; cases e
  · rw [if_neg h] at e; exact e
theorem hide_ne {H : Hp} {a b : Addr} (h : b ≠ a) : hide H a b = H b := by unfold hide; rw [if_neg h]
theorem hide_at {H : Hp} {a : Addr} : hide H a a = none := by unfold hide; rw [if_pos rfl]
def spA (K : PySem.W.Frag) (n : Nat) (f : FA) : Sp := fun vs H Q _ => ∃ (F : Hp) (ds : List D) (C : Cell → Prop), vs.length = n ∧ Same F H ∧ Reps K F vs ds ∧ f ds C ∧
  ∀ v c F' H', Up H F F' → SimR K H F' H' [some v] [some c] → C c → Q v H'
def spB (K : PySem.W.Frag) (n : Nat) (f : FB) : Sp := fun vs H Q _ => ∃ (F : Hp) (a : Addr) (us : List V) (xs : List D) (ws : List V) (ds : List D) (C : Cell → List D → Prop), vs = .ref a :: ws ∧ vs.length = n ∧ Same F H ∧ F a = none ∧ H a = some (.lst us) ∧ Reps K F us xs ∧ Reps K F ws ds ∧ f xs ds C ∧
  ∀ v c xs' F' H', Up (hide H a) F F' → SimR K (hide H a) F' H' [some (.ref a), some v] [some (.own a xs'), some c] → C c xs' → Q v H'
theorem get_one {α : Type} {x y : α} {i : Nat} (h : [x][i]? = some y) : i = 0 ∧ x = y := by
  cases i with
  | zero => exact ⟨rfl, Option.some.inj h⟩
  | succ i => simp at h
section
variable [TJ]
theorem Sim.only {K : PySem.W.Frag} {G F H : Hp} {σ : L2.St} {ρ : Ro} {v : V} {c : Cell} (S : Sim K G F H (σ ++ [some v]) (ρ ++ [some c])) : SimR K G F H [some v] [some c] := by
  refine ⟨S.hF, S.hG.same, rfl, fun i d h => ?_, fun i a xs h => ?_, fun i j a xs ys h1 h2 => ?_, fun i s h => ?_, fun i j s t p h1 h2 _ _ => (get_one h1).1.trans (get_one h2).1.symm, fun j a xs h ⟨i, s, e, _⟩ => ?_⟩
  · obtain ⟨rfl, e⟩ := get_one h
    cases e
    exact ⟨v, rfl, S.lastVal⟩
  · obtain ⟨rfl, e⟩ := get_one h
    cases e
    obtain ⟨rfl, h2, h3, h4, h5⟩ := S.lastOwn
    exact ⟨rfl, h2, h3, h5⟩
  · rw [(get_one h1).1, (get_one h2).1]
  · obtain ⟨rfl, e⟩ := get_one h
    cases e
    obtain ⟨rfl, h2, h3, h4⟩ := S.lastBox
    exact ⟨rfl, h2, h3⟩
  · have h1 := (get_one h).2
    have h2 := (get_one e).2
    rw [h1] at h2
    cases h2
theorem Sim.only2 {K : PySem.W.Frag} {G F H : Hp} {σ : L2.St} {ρ : Ro} {v : V} {c : Cell} {a : Addr} {xs : List D} {i : Nat} (S : Sim K G F H (σ ++ [some v]) (ρ ++ [some c])) (e : ρ[i]? = some (some (.own a xs))) : SimR K G F H [some (.ref a), some v] [some (.own a xs), some c] := by
  obtain ⟨h1, h2, h3, vs, h4, h5⟩ := S.drop.own i a xs e
  have hn : ∀ (b : Addr) (ys : List D), c = .own b ys → b ≠ a := fun b ys z w => by
    subst z w
    exact S.lastOwn.2.2.2.1.1 i xs e
  refine ⟨S.hF, S.hG.same, rfl, fun i d h => ?_, fun i b ys h => ?_, fun i j b ys zs q1 q2 => ?_, fun i s h => ?_, fun i j s t p q1 q2 _ _ => ?_, fun j b ys q ⟨k, s, e2, m⟩ => ?_⟩
  · match i, h with
    | 1, h => have e' : c = .val d := Option.some.inj (Option.some.inj h); subst e'; exact ⟨v, rfl, S.lastVal⟩
  · match i, h with
    | 0, h => cases h; exact ⟨rfl, h2, h3, vs, h4, h5⟩
    | 1, h =>
      have e' : c = .own b ys := Option.some.inj (Option.some.inj h)
      subst e'
      obtain ⟨rfl, g2, g3, g4, g5⟩ := S.lastOwn
      exact ⟨rfl, g2, g3, g5⟩
  · match i, j, q1, q2 with
    | 0, 0, _, _ => rfl
    | 1, 1, _, _ => rfl
    | 0, 1, q1, q2 => cases q1; exact absurd rfl (hn _ zs (Option.some.inj (Option.some.inj q2)))
    | 1, 0, q1, q2 => cases q2; exact absurd rfl (hn _ ys (Option.some.inj (Option.some.inj q1)))
  · match i, h with
    | 1, h =>
      have e' : c = .box s := Option.some.inj (Option.some.inj h)
      subst e'
      obtain ⟨rfl, g2, g3, g4⟩ := S.lastBox
      exact ⟨rfl, g2, g3⟩
  · match i, j, q1, q2 with
    | 1, 1, _, _ => rfl
  · match k, e2 with
    | 1, e2 =>
      have e' : c = .box s := Option.some.inj (Option.some.inj e2)
      subst e'
      obtain ⟨rfl, g2, g3, g4⟩ := S.lastBox
      match j, q with
      | 0, q => cases q; exact (g4 a m).1 _ xs e
      | 1, q => cases q
theorem Sim.afterA {K : PySem.W.Frag} {G F H F' H' : Hp} {σ : L2.St} {ρ : Ro} {v : V} {c : Cell} (S : Sim K G F H σ ρ) (u : Up H F F') (S' : SimR K H F' H' [some v] [some c]) : Sim K G F' H' (σ ++ [some v]) (ρ ++ [some c]) := by
  have base : Sim K G F' H' σ ρ := by
    refine ⟨S'.hF, S.hG.up S'.hG u.out, S.len, fun i d h => ?_, fun i a xs h => ?_, S.ne, S.bx.heap u.ex fun p m => let ⟨f, g, o, e⟩ := S.bx.free m; ⟨u.isNone f e, g, (S'.hG _ _ e).trans e.symm⟩⟩
    · obtain ⟨w, h1, h2⟩ := S.val i d h
      exact ⟨w, h1, h2.mono u.ex⟩
    · obtain ⟨h1, h2, h3, vs, h4, h5⟩ := S.own i a xs h
      exact ⟨h1, u.isNone h2 h4, h3, vs, S'.hG _ _ h4, h5.mono u.ex⟩
  cases c with
  | val d =>
    obtain ⟨w, h1, h2⟩ := S'.val 0 d rfl
    cases h1
    exact base.pushVal h2
  | own a xs =>
    obtain ⟨h1, h2, h3, vs, h4, h5⟩ := S'.own 0 a xs rfl
    cases h1
    exact base.pushOwn h4 h2 (S.hG.free h3) (S.notOwn h3) h5
  | box s =>
    obtain ⟨h1, h2, h3⟩ := S'.bx.box 0 s rfl
    cases h1
    exact base.pushBox (fun p m => ⟨(h2 p m).1, S.hG.free (h2 p m).2⟩) h3 fun p m => S.notOwn (h2 p m).2
theorem Sim.afterB {K : PySem.W.Frag} {G F H F' H' : Hp} {σ : L2.St} {ρ : Ro} {v : V} {c : Cell} {i : Nat} {a : Addr} {xs xs' : List D} (S : Sim K G F H σ ρ) (e : ρ[i]? = some (some (.own a xs))) (u : Up (hide H a) F F') (S' : SimR K (hide H a) F' H' [some (.ref a), some v] [some (.own a xs'), some c]) : Sim K G F' H' (σ ++ [some v]) (ρ.set i (some (.own a xs')) ++ [some c]) := by
  obtain ⟨h1, h2, h3, vs, h4, h5⟩ := S.own i a xs e
  have hi := lt_of_get e
  obtain ⟨_, g2, g3, ws, g4, g5⟩ := S'.own 0 a xs' rfl
  have other : ∀ (j : Nat) (b : Addr) (ys : List D), ρ[j]? = some (some (.own b ys)) → j ≠ i → b ≠ a := fun j b ys q hj z => by
    subst z; exact hj (S.ne _ _ _ _ _ q e)
  have far : ∀ (j : Nat) (x : Cell), (ρ.set i (some (.own a xs')))[j]? = some (some x) → (j = i ∧ x = .own a xs') ∨ (j ≠ i ∧ ρ[j]? = some (some x)) := fun j x q => by
    by_cases hj : i = j
    · subst hj; rw [List.getElem?_set_self hi] at q; cases q; exact .inl ⟨rfl, rfl⟩
    · rw [List.getElem?_set_ne hj] at q; exact .inr ⟨fun z => hj z.symm, q⟩
  have base : Sim K G F' H' σ (ρ.set i (some (.own a xs'))) := by
    refine ⟨S'.hF, ⟨fun b o q => ?_, TJ.step S.hG.tj (fun b o q ne => ?_) fun b o q => ?_⟩, by simpa using S.len, fun j d h => ?_, fun j b ys h => ?_, fun j k b ys zs q1 q2 => ?_, S.bx.to u.ex (fun p m => ?_) (fun j s q => ⟨(set_box (by simp) q).1, rfl⟩) fun j b ys q => (set_own q).elim (fun z => by cases z; exact .inl ⟨i, xs, e⟩) fun q => .inl ⟨j, ys, q⟩⟩
    · have n : b ≠ a := fun z => by subst z; rw [h3] at q; cases q
      exact S'.hG b o (by rw [hide_ne n]; exact S.hG b o q)
    · have n : b ≠ a := fun z => by subst z; rw [h4] at q; exact ne ((Option.some.inj q) ▸ trivial)
      exact S'.hG b o (by rw [hide_ne n]; exact q)
    · rcases u.out b o q with z | z
      · exact .inl z
      · by_cases n : b = a
        · subst n; exact .inr (.inr ⟨_, h4, trivial⟩)
        · rw [hide_ne n] at z; exact .inr (.inl z)
    · rcases far j _ h with ⟨_, z⟩ | ⟨_, h⟩
      · cases z
      · obtain ⟨w, k1, k2⟩ := S.val j d h
        exact ⟨w, k1, k2.mono u.ex⟩
    · rcases far j _ h with ⟨rfl, z⟩ | ⟨hj, h⟩
      · cases z; exact ⟨h1, g2, h3, ws, g4, g5⟩
      · obtain ⟨k1, k2, k3, us, k4, k5⟩ := S.own j b ys h
        have n := other j b ys h hj
        have k4' : hide H a b = some (.lst us) := by rw [hide_ne n]; exact k4
        exact ⟨k1, u.isNone k2 k4', k3, us, S'.hG _ _ k4', k5.mono u.ex⟩
    · rcases far j _ q1 with ⟨f1, z1⟩ | ⟨hj, p1⟩
      · rcases far k _ q2 with ⟨f2, _⟩ | ⟨hk, p2⟩
        · rw [f1, f2]
        · cases z1; exact absurd rfl (other k _ zs p2 hk)
      · rcases far k _ q2 with ⟨f2, z2⟩ | ⟨hk, p2⟩
        · cases z2; exact absurd rfl (other j _ ys p1 hj)
        · exact S.ne _ _ _ _ _ p1 p2
    · obtain ⟨f, g, o, e'⟩ := S.bx.free m
      have e2 : hide H a p = some o := by rw [hide_ne (S.bx.apart m e)]; exact e'
      exact ⟨u.isNone f e2, g, (S'.hG _ _ e2).trans e'.symm⟩
  cases c with
  | val d =>
    obtain ⟨w, k1, k2⟩ := S'.val 1 d rfl
    cases k1
    exact base.pushVal k2
  | own b ys =>
    obtain ⟨k1, k2, k3, us, k4, k5⟩ := S'.own 1 b ys rfl
    cases k1
    have n : b ≠ a := fun z => by subst z; exact absurd (S'.ne 0 1 b xs' ys rfl rfl) (by decide)
    have hb : H b = none := (hide_ne (H := H) n).symm.trans k3
    refine base.pushOwn k4 k2 (S.hG.free hb) ⟨fun j zs q => ?_, fun m => (S.notOwn hb).2 (set_inbox (by simp) m)⟩ k5
    rcases far j _ q with ⟨_, z⟩ | ⟨_, q⟩
    · cases z; exact n rfl
    · obtain ⟨_, _, _, vs', h4', _⟩ := S.own j b zs q
      rw [hb] at h4'; cases h4'
  | box s =>
    obtain ⟨k1, k2, k3⟩ := S'.bx.box 1 s rfl
    cases k1
    have hb : ∀ p ∈ s.foot, H p = none := fun p m => by
      have n : p ≠ a := fun z => by subst z; exact S'.bx.bo 0 p xs' rfl ⟨1, s, rfl, m⟩
      exact (hide_ne (H := H) n).symm.trans (k2 p m).2
    refine base.pushBox (fun p m => ⟨(k2 p m).1, S.hG.free (hb p m)⟩) k3 fun p m => ⟨fun j zs q => ?_, fun z => (S.notOwn (hb p m)).2 (set_inbox (by simp) z)⟩
    rcases far j _ q with ⟨_, z⟩ | ⟨_, q⟩
    · cases z; rw [hb _ m] at h4; cases h4
    · exact (S.notOwn (hb p m)).1 j zs q
end
section
variable [TJ] {X : Cx} {k : Nat} {f : Addr} {fd : FuncData} {ps : List Str} {x : Str} {p pos : Pos} {e : Expr} {es : List Expr} {t : TA} {T : TAp} {n : Nat}
def pCallA (n : Nat) (g : FA) (T : TAp) : TCp := fun ρ Q => T ρ fun ds ρ1 => ds.length = n ∧ g ds fun c => Q c ρ1
theorem ppc_callA {g : FA} (Fn : FnOk X.prog X.w X.K X.mg X.base CX0 k f fd ps (spA X.K n g)) (hr : Room k X.A) (hg : Gl X x) (hm : X.mg x = some (.ref f)) (hk : PySem.W.keepIn X.K (.ref f) = true) (hb : Binds X.K fd ps []) (ha : PPA X (e :: es) t T)
    (hdb : (x == ("__debug__" : Str)) = false := by decide) (he : starEach (e :: es) X.env = (false, eval e X.env) :: starEach es X.env := by rfl) (hpl : (backTo pos (starEach es X.env)).any (·.1) = false := by rfl) :
    PPC X (.Call (.Name x p) (e :: es) [] pos) (tCall (spA X.K n g) [] (fun _ _ _ => False) t) (pCallA n g T) := ⟨pe_call Fn hr hg hm hk hb .nil pass0 ha.pa hdb he hpl, fun G F H σ ρ Q R S hT k =>
  ha.snd G F H σ ρ _ _ S hT fun vs ds F1 H1 ρ1 u1 S1 r1 h1 => by
    show spA X.K n g (vs ++ []) H1 R _
    rw [List.append_nil]
    exact ⟨F1, ds, _, by rw [r1.length]; exact h1.1, S1.hF, r1, h1.2, fun v c F' H' u S' q => k v c F' H' ρ1 (u1.trans (u.less S1.hG)) (S1.afterA u S') q⟩⟩
def pCallB (i n : Nat) (g : FB) (T : TAp) : TCp := fun ρ Q => match ρ[i]? with
  | some (some (.own a _)) => T ρ fun ds ρ1 => ∃ xs1, ρ1[i]? = some (some (.own a xs1)) ∧ ds.length + 1 = n ∧ g xs1 ds fun c xs2 => Q c (ρ1.set i (some (.own a xs2)))
  | _ => False
theorem ppc_callB (i : Nat) {y : Str} {py : Pos} {g : FB} (Fn : FnOk X.prog X.w X.K X.mg X.base CX0 k f fd ps (spB X.K n g)) (hr : Room k X.A) (hg : Gl X x) (hm : X.mg x = some (.ref f)) (hk : PySem.W.keepIn X.K (.ref f) = true) (hb : Binds X.K fd ps []) (ha : PPA X es t T)
    (hN : X.N[i]? = some y := by rfl) (hv : Vis X.env.scope y := by first | exact Or.inl rfl | exact Or.inr (Or.inl rfl) | exact Or.inr (Or.inr rfl)) (hd : (y == ("__debug__" : Str)) = false := by decide) (hcd : (y == ("__classdict__" : Str)) = false := by decide)
    (hdb : (x == ("__debug__" : Str)) = false := by decide) (he : starEach (.Name y py :: es) X.env = (false, eval (.Name y py) X.env) :: starEach es X.env := by rfl) (hpl : (backTo pos (starEach es X.env)).any (·.1) = false := by rfl) :
    PPC X (.Call (.Name x p) (.Name y py :: es) [] pos) (tCall (spB X.K n g) [] (fun _ _ _ => False) (tCons (tVar i) t)) (pCallB i n g T) := ⟨pe_call Fn hr hg hm hk hb .nil pass0 (pa_cons (pe_var hN hv hd hcd) ha.pa he) hdb he hpl, fun G F H σ ρ Q R S hT k => by
  unfold pCallB at hT
  split at hT
  · rename_i a xs e0
    refine ⟨.ref a, (S.own i a xs e0).1, ha.snd G F H σ ρ _ _ S hT fun vs ds F1 H1 ρ1 u1 S1 r1 h1 => ?_⟩
    obtain ⟨xs1, e1, hn, q1⟩ := h1
    obtain ⟨h1, h2, h3, us, h4, h5⟩ := S1.own i a xs1 e1
    show spB X.K n g ((.ref a :: vs) ++ []) H1 R _
    rw [List.append_nil]
    refine ⟨F1, a, us, xs1, vs, ds, _, rfl, by rw [List.length_cons, r1.length]; exact hn, S1.hF, h2, h4, h5, r1, q1, fun v c xs' F' H' u S' q => ?_⟩
    have hGh : Same G (hide H1 a) := fun b o qq => by
      have nb : b ≠ a := fun z => by rw [z, h3] at qq; cases qq
      rw [hide_ne nb]; exact S1.hG b o qq
    exact k v c F' H' _ (u1.trans (u.less hGh)) (S1.afterB e1 u S') q
  · exact hT.elim⟩
end
section
variable {P : Program} {w : World} {K : PySem.W.Frag} {mg : Str → Option Value} {base : Heap} {x qual : Str} {st : Stmt} {f : Addr} {fd : FuncData} {N ps : List Str} {k : Nat}
def startA (N : List Str) (ds : List D) : Ro := ds.map (fun d => some (.val d)) ++ List.replicate (N.length - ds.length) none
def startB (N : List Str) (a : Addr) (xs : List D) (ds : List D) : Ro := some (.own a xs) :: (ds.map (fun d => some (.val d)) ++ List.replicate (N.length - (ds.length + 1)) none)
theorem sim_vals [TJ] {K : PySem.W.Frag} {G F H : Hp} (hF : Same F H) (hG : SameJ G F H) {vs : List V} {ds : List D} (r : Reps K F vs ds) (m : Nat) : Sim K G F H (vs.map some ++ List.replicate m none) (ds.map (fun d => some (.val d)) ++ List.replicate m none) := by
  have key : ∀ (i : Nat) (c : Cell), (ds.map (fun d => some (Cell.val d)) ++ List.replicate m none)[i]? = some (some c) → ∃ d, c = .val d ∧ ds[i]? = some d := fun i c h => by
    rcases Nat.lt_or_ge i ds.length with q | q
    · rw [List.getElem?_append_left (by simpa using q), List.getElem?_map, List.getElem?_eq_getElem q] at h
      exact ⟨ds[i], (Option.some.inj (Option.some.inj h)).symm, List.getElem?_eq_getElem q⟩
    · rw [List.getElem?_append_right (by simpa using q), List.getElem?_replicate] at h
      split at h <;> cases h
  refine ⟨hF, hG, by simp [r.length], fun i d h => ?_, fun i a xs h => ?_, fun i j a xs ys h1 h2 => ?_, .nil fun i s h => by obtain ⟨d, e, _⟩ := key i _ h; cases e⟩
  · obtain ⟨d', e, hd⟩ := key i _ h
    cases e
    obtain ⟨v, hv, rv⟩ := r.get hd
    refine ⟨v, ?_, rv⟩
    have q : i < vs.length := lt_of_get hv
    rw [List.getElem?_append_left (by simpa using q), List.getElem?_map, hv]
    rfl
  · obtain ⟨d', e, _⟩ := key i _ h
    cases e
  · obtain ⟨d', e, _⟩ := key i _ h1
    cases e
theorem Sim.cons_own [TJ] {K : PySem.W.Frag} {G F H : Hp} {σ : L2.St} {ρ : Ro} (S : Sim K G F H σ ρ) {a : Addr} {vs : List V} {xs : List D} (hH : H a = some (.lst vs)) (hF : F a = none) (hG : G a = none) (hn : NotOwn ρ a) (r : Reps K F vs xs) :
    Sim K G F H (some (.ref a) :: σ) (some (.own a xs) :: ρ) := by
  refine ⟨S.hF, S.hG, by simp [S.len], fun i d h => ?_, fun i b ys h => ?_, fun i j b ys zs h1 h2 => ?_, fun i s h => ?_, fun i j s t p h1 h2 m1 m2 => ?_, fun j b ys h ⟨k, s, e, m⟩ => ?_⟩
  · cases i with
    | zero => cases h
    | succ i => exact S.val i d h
  · cases i with
    | zero => cases h; exact ⟨rfl, hF, hG, vs, hH, r⟩
    | succ i => exact S.own i b ys h
  · cases i with
    | zero =>
      cases j with
      | zero => rfl
      | succ j => cases h1; exact absurd h2 (hn.1 j zs)
    | succ i =>
      cases j with
      | zero => cases h2; exact absurd h1 (hn.1 i ys)
      | succ j => rw [S.ne i j b ys zs h1 h2]
  · cases i with
    | zero => cases h
    | succ i => exact S.bx.box i s h
  · cases i with
    | zero => cases h1
    | succ i =>
      cases j with
      | zero => cases h2
      | succ j => rw [S.bx.bb i j s t p h1 h2 m1 m2]
  · cases k with
    | zero => cases e
    | succ k =>
      cases j with
      | zero => cases h; exact hn.2 ⟨k, s, e, m⟩
      | succ j => exact S.bx.bo j b ys h ⟨k, s, e, m⟩
theorem vals_box {ds : List D} {m i : Nat} {s : Sh} : (ds.map (fun d => some (Cell.val d)) ++ List.replicate m none)[i]? ≠ some (some (.box s)) := fun h => by
  rcases Nat.lt_or_ge i ds.length with q | q
  · rw [List.getElem?_append_left (by simpa using q), List.getElem?_map, List.getElem?_eq_getElem q] at h
    cases h
  · rw [List.getElem?_append_right (by simpa using q), List.getElem?_replicate] at h
    split at h <;> cases h
theorem notOwn_vals {ds : List D} {m : Nat} {a : Addr} : NotOwn (ds.map (fun d => some (Cell.val d)) ++ List.replicate m none) a := ⟨fun i xs h => (by
  rcases Nat.lt_or_ge i ds.length with q | q
  · rw [List.getElem?_append_left (by simpa using q), List.getElem?_map, List.getElem?_eq_getElem q] at h
    cases h
  · rw [List.getElem?_append_right (by simpa using q), List.getElem?_replicate] at h
    split at h <;> cases h), fun ⟨i, s, e, _⟩ => vals_box e⟩
theorem okA {g : FA} {T : TSp} (Fn : Fun K x qual st f fd) (S : FnScope N ps (defScope st))
    (hb : ∀ (cdv : Value) (A : Around) (outer : List Env) (s : Shared) (H : Hp) (E : XK), Room k (A.deeper (envOfC qual (defScope st) s.heap.objs.size f cdv)) → ∃ t, PPSs (cxOf CX0 P w K mg base N qual (defScope st) f cdv A outer s H E).nox (defBody st) t T)
    (hT : ∀ ds C, ds.length = ps.length → g ds C → T { nx := fun _ => C (.val .non), rt := fun c _ => C c } (startA N ds)) : FnOk P w K mg base CX0 (k + 1) f fd ps (spA K ps.length g) := by
  refine Fn.ok S (fun vs H Q E h => ?_) (fun cdv A outer s H vs Q E hr h => ?_)
  · obtain ⟨F, ds, C, hl, _⟩ := h
    exact hl
  · obtain ⟨F, ds, C, hl, hF, r, hg, hQ⟩ := h
    obtain ⟨t, ht⟩ := hb cdv A outer s H E hr
    refine ⟨t, ht.ps, ?_⟩
    have S0 : Sim K H F H (L2.start N vs) (startA N ds) := by
      unfold L2.start startA
      rw [r.length]
      exact sim_vals hF (.rfl' F H) r _
    refine ht.snd H F H _ _ _ _ S0 (hT ds C (by rw [← r.length]; exact hl) hg) ⟨fun F' H' σ' ρ' u S' q => ?_, fun F' H' σ' ρ' v c u S' q => hQ v c F' H' u S'.only q, fun _ _ _ _ _ _ q => q, fun _ _ _ _ _ _ q => q⟩
    exact hQ .non (.val .non) F' H' u ((S'.pushVal .non).only) q
theorem okB {g : FB} {T : TSp} (Fn : Fun K x qual st f fd) (S : FnScope N ps (defScope st))
    (hb : ∀ (cdv : Value) (A : Around) (outer : List Env) (s : Shared) (H : Hp) (E : XK), Room k (A.deeper (envOfC qual (defScope st) s.heap.objs.size f cdv)) → ∃ t, PPSs (cxOf CX0 P w K mg base N qual (defScope st) f cdv A outer s H E).nox (defBody st) t T)
    (hT : ∀ a xs ds C, ds.length + 1 = ps.length → g xs ds C → T { nx := fun ρ => ∃ ys, ρ[0]? = some (some (.own a ys)) ∧ C (.val .non) ys, rt := fun c ρ => ∃ ys, ρ[0]? = some (some (.own a ys)) ∧ C c ys } (startB N a xs ds)) : FnOk P w K mg base CX0 (k + 1) f fd ps (spB K ps.length g) := by
  refine Fn.ok S (fun vs H Q E h => ?_) (fun cdv A outer s H vs Q E hr h => ?_)
  · obtain ⟨F, a, us, xs, ws, ds, C, _, hl, _⟩ := h
    exact hl
  · obtain ⟨F, a, us, xs, ws, ds, C, rfl, hl, hF, hFa, hHa, r1, r2, hg, hQ⟩ := h
    obtain ⟨t, ht⟩ := hb cdv A outer s H E hr
    refine ⟨t, ht.ps, ?_⟩
    have S0 : Sim K (hide H a) F H (L2.start N (.ref a :: ws)) (startB N a xs ds) := by
      unfold L2.start startB
      rw [List.length_cons, r2.length]
      exact (sim_vals hF (.of (hide_same H a)) r2 _).cons_own hHa hFa hide_at notOwn_vals r1
    refine ht.snd (hide H a) F H _ _ _ _ S0 (hT a xs ds C (by rw [← r2.length]; exact hl) hg) ⟨fun F' H' σ' ρ' u S' q => ?_, fun F' H' σ' ρ' v c u S' q => ?_, fun _ _ _ _ _ _ q => q, fun _ _ _ _ _ _ q => q⟩
    · obtain ⟨ys, e, q⟩ := q
      exact hQ .non (.val .non) ys F' H' u ((S'.pushVal .non).only2 e) q
    · obtain ⟨ys, e, q⟩ := q
      exact hQ v c ys F' H' u (S'.only2 e) q
end
end Pl
namespace Pl
open PySem PySem.Spec PyProof.Rows L2
variable [TJ]
def liftE (K : PySem.W.Frag) (T : TEp) : TE := fun σ H R => ∃ (G F : Hp) (ρ : Ro) (Q : D → Ro → Prop), Sim K G F H σ ρ ∧ T ρ Q ∧ ∀ v d F' H' ρ', Up G F F' → Sim K G F' H' σ ρ' → Rep K F' v d → Q d ρ' → R v H'
def liftT (K : PySem.W.Frag) (T : TTp) : TT := fun σ H R => ∃ (G F : Hp) (ρ : Ro) (Q : Bool → Ro → Prop), Sim K G F H σ ρ ∧ T ρ Q ∧ ∀ b F' H' ρ', Up G F F' → Sim K G F' H' σ ρ' → Q b ρ' → R b H'
def liftG (K : PySem.W.Frag) (T : TGp) (is : List Nat) : TG := fun v σ H R => ∃ (G F : Hp) (ρ : Ro) (Q : Ro → Prop) (d : D), Sim K G F H σ ρ ∧ Rep K F v d ∧ T d ρ Q ∧ ∀ F' H' σ' ρ', Up G F F' → Sim K G F' H' σ' ρ' → (∀ j, j ∉ is → σ'[j]? = σ[j]?) → σ'.length = σ.length → Q ρ' → R σ' H'
section
variable {X : Cx}
theorem PPE.lift {e : Expr} {t : TE} {T : TEp} (h : PPE X e t T) : PPE X e (liftE X.K T) T :=
  ⟨⟨fun pins s σ H Q I ⟨G, F, ρ, Q', S, hT, k⟩ => h.pe.run pins s σ H Q I (h.snd G F H σ ρ Q' Q S hT k)⟩, fun G F H σ ρ Q R S hT k => ⟨G, F, ρ, Q, S, hT, k⟩⟩
theorem PPTs.lift {es : List Expr} {t : TT} {T : TTp} (h : PPTs X es t T) : PPTs X es (liftT X.K T) T :=
  ⟨⟨fun pins s σ H Q I ⟨G, F, ρ, Q', S, hT, k⟩ => h.pt.run pins s σ H Q I (h.snd G F H σ ρ Q' Q S hT k)⟩, fun G F H σ ρ Q R S hT k => ⟨G, F, ρ, Q, S, hT, k⟩⟩
theorem PTg.lift {tg : Expr} {g : TG} {T : TGp} {is : List Nat} (h : PTg X tg g T is) : PTg X tg (liftG X.K T is) T is :=
  ⟨⟨fun pins s σ H v u Q I r ⟨G, F, ρ, Q', d, S, rd, hT, k⟩ => h.pg.run pins s σ H v u Q I r (h.snd G F H σ ρ Q' Q v d S rd hT k)⟩, fun G F H σ ρ Q R v d S r hT k => ⟨G, F, ρ, Q, d, S, r, hT, k⟩⟩
end
section
variable {X : Cx} {elt tg iter : Expr} {ifs : List Expr} {scope : Scope} {own : List (Str × Nat)} {pos : Pos} {wi : TI} {Ti : TAp} {Gp : TGp} {is : List Nat} {Tt : TTp} {Te : TEp} {vs : List Nat}
theorem ppc_lcL (hc : X.calm = true) (hN : X.N.Nodup) (hi : PPI X tg iter wi Ti) (ok : BlkOk X.N X.env.scope scope own)
    (hg : ∀ (s : Shared) (H : Hp) (C : Addr) (cl : List (Str × Addr)) (fp : List Addr), PTg (X.blk s H scope (compEnvC scope cl C X.env) fp) tg (liftG X.K Gp is) Gp is) (ht : ∀ (s : Shared) (H : Hp) (C : Addr) (cl : List (Str × Addr)) (fp : List Addr), PPTs (X.blk s H scope (compEnvC scope cl C X.env) fp) ifs (liftT X.K Tt) Tt)
    (he : ∀ (s : Shared) (H : Hp) (C : Addr) (cl : List (Str × Addr)) (fp : List Addr), PPE (X.blk s H scope (compEnvC scope cl C X.env) fp) elt (liftE X.K Te) Te) (hs : ∀ x, foldedSetIterable iter X.env x = pure x := by intro _; rfl) (hsub : ∀ i ∈ is, i ∈ own.map (·.2) := by decide) :
    PPC X (.ListComp elt [⟨tg, iter, ifs, 0⟩] scope pos) (tLc wi (liftG X.K Gp is) (liftT X.K Tt) (liftE X.K Te) (own.map (·.2))) (pLcO Ti Gp Tt Te (own.map (·.2))) := ppc_lc hc hN hi ok hg ht he hs hsub
theorem ppe_lcL (hc : X.calm = true) (hN : X.N.Nodup) (hi : PPI X tg iter wi Ti) (ok : BlkOk X.N X.env.scope scope own)
    (hg : ∀ (s : Shared) (H : Hp) (C : Addr) (cl : List (Str × Addr)) (fp : List Addr), PTg (X.blk s H scope (compEnvC scope cl C X.env) fp) tg (liftG X.K Gp is) Gp is) (ht : ∀ (s : Shared) (H : Hp) (C : Addr) (cl : List (Str × Addr)) (fp : List Addr), PPTs (X.blk s H scope (compEnvC scope cl C X.env) fp) ifs (liftT X.K Tt) Tt)
    (he : ∀ (s : Shared) (H : Hp) (C : Addr) (cl : List (Str × Addr)) (fp : List Addr), PPE (X.blk s H scope (compEnvC scope cl C X.env) fp) elt (liftE X.K Te) Te) (hs : ∀ x, foldedSetIterable iter X.env x = pure x := by intro _; rfl) (hsub : ∀ i ∈ is, i ∈ own.map (·.2) := by decide) :
    PPE X (.ListComp elt [⟨tg, iter, ifs, 0⟩] scope pos) (tLc wi (liftG X.K Gp is) (liftT X.K Tt) (liftE X.K Te) (own.map (·.2))) (pLc Ti Gp Tt Te (own.map (·.2))) := ppe_lc hc hN hi ok hg ht he hs hsub
theorem pps_setLcL {i : Nat} {y : Str} {py spos : Pos} (hc : X.calm = true) (hN : X.N.Nodup) (hi : PPI X tg iter wi Ti) (ok : BlkOk X.N X.env.scope scope own)
    (hg : ∀ (s : Shared) (H : Hp) (C : Addr) (cl : List (Str × Addr)) (fp : List Addr), PTg (X.blk s H scope (compEnvC scope cl C X.env) fp) tg (liftG X.K Gp is) Gp is) (ht : ∀ (s : Shared) (H : Hp) (C : Addr) (cl : List (Str × Addr)) (fp : List Addr), PPTs (X.blk s H scope (compEnvC scope cl C X.env) fp) ifs (liftT X.K Tt) Tt)
    (he : ∀ (s : Shared) (H : Hp) (C : Addr) (cl : List (Str × Addr)) (fp : List Addr), PPE (X.blk s H scope (compEnvC scope cl C X.env) fp) elt (liftE X.K Te) Te)
    (hy : X.N[i]? = some y := by rfl) (hyl : X.env.scope.names.lookup y = some .local := by rfl)
    (hsw : swapsWith (.ListComp elt [⟨tg, iter, ifs, 0⟩] scope pos) (some (.Name y py)) spos.line X.env = pure true := by exact sw_true rfl rfl rfl (by decide +kernel)) (hs : ∀ x, foldedSetIterable iter X.env x = pure x := by intro _; rfl) (hsub : ∀ i ∈ is, i ∈ own.map (·.2) := by decide) :
    PPS X (.Assign [.Name y py] (.ListComp elt [⟨tg, iter, ifs, 0⟩] scope pos) spos) (tAsg (tLc wi (liftG X.K Gp is) (liftT X.K Tt) (liftE X.K Te) (own.map (·.2))) (gName i)) (pSet i (pLcO Ti Gp Tt Te (own.map (·.2)))) := pps_setLc hc hN hi ok hg ht he hy hyl hsw hs hsub
end
theorem hu64 {k : Nat} {A : Around} (hr : Room k A) : A.units + 64 < cLine := by have := hr.un; omega
end Pl
namespace Pl
open PySem PySem.Spec PyProof.Rows L2
theorem ifB {b : Bool} {A B : Prop} (h1 : b = true → A) (h2 : b = false → B) : if b = true then A else B := by
  cases b with
  | true => exact ite_ti (h1 rfl)
  | false => exact ite_fi (h2 rfl)
theorem ifT {b : Bool} {A B : Prop} (h : b = true) (h1 : A) : if b = true then A else B := by subst h; exact ite_ti h1
theorem ifF {b : Bool} {A B : Prop} (h : b = false) (h1 : B) : if b = true then A else B := by subst h; exact ite_fi h1
theorem dT {p : Prop} [Decidable p] (h : decide p = true) : p := of_decide_eq_true h
theorem sl1000 {n : Nat} (h : n ≤ 1000) : n ≤ sizeLine := Nat.le_of_lt (small1000 h)
theorem for_inv {g : TGp} {tb : TSp} {P : PEnds} (I : List D → Ro → Prop) (hs : ∀ (d : D) (r : List D) (ρ : Ro) (K : Ro → Prop), (∀ ρ', I r ρ' → K ρ') → I (d :: r) ρ → g d ρ fun ρ1 => tb { P with nx := K, ct := K, bk := P.nx } ρ1)
    (he : ∀ ρ, I [] ρ → P.nx ρ) : ∀ (ds : List D) (ρ : Ro), I ds ρ → forW g tb P ds ρ
  | [], ρ, h => he ρ h
  | d :: ds, ρ, h => hs d ds ρ _ (fun ρ' h' => for_inv I hs he ds ρ' h') h
theorem lcW_inv {vs : List Nat} {g : TGp} {tt : TTp} {te : TEp} {Q : List D → Ro → Prop} (I : List D → List D → Ro → Prop)
    (hs : ∀ (d : D) (r acc : List D) (ρ : Ro) (K : List D → Ro → Prop), (∀ acc' ρ', I r acc' ρ' → K acc' ρ') → I (d :: r) acc ρ → g d (wipeP ρ vs) fun ρ2 => tt ρ2 fun b ρ3 => if b = true then te ρ3 fun y ρ4 => acc.length < sizeLine ∧ K (acc ++ [y]) (restore ρ ρ4 vs) else K acc (restore ρ ρ3 vs))
    (he : ∀ acc ρ, I [] acc ρ → Q acc ρ) : ∀ (ds acc : List D) (ρ : Ro), I ds acc ρ → lcW vs g tt te Q ds acc ρ
  | [], acc, ρ, h => he acc ρ h
  | d :: ds, acc, ρ, h => hs d ds acc ρ (fun acc' ρ' => lcW vs g tt te Q ds acc' ρ') (fun acc' ρ' h' => lcW_inv I hs he ds acc' ρ' h') h
def ElemOk (vs : List Nat) (g : TGp) (te : TEp) (ρ : Ro) (d y : D) : Prop := ∀ K : D → Ro → Prop, (∀ ρ4, restore ρ ρ4 vs = ρ → K y ρ4) → g d (wipeP ρ vs) fun ρ2 => te ρ2 K
theorem lcW_map {vs : List Nat} {g : TGp} {te : TEp} {Q : List D → Ro → Prop} {f : D → D} {ρ : Ro} : ∀ (ds acc : List D), (∀ d ∈ ds, ElemOk vs g te ρ d (f d)) → acc.length + ds.length ≤ 1000 → Q (acc ++ ds.map f) ρ → lcW vs g pYes te Q ds acc ρ
  | [], acc, _, _, hQ => by
    have hQ : Q (acc ++ []) ρ := hQ
    rw [List.append_nil] at hQ
    exact hQ
  | d :: ds, acc, h, hl, hQ => by
    have hl' : acc.length + (ds.length + 1) ≤ 1000 := hl
    refine h d (by simp) _ fun ρ4 e => ⟨small1000 (by omega), ?_⟩
    rw [e]
    refine lcW_map ds _ (fun x hx => h x (by simp [hx])) (by rw [List.length_append]; show acc.length + 1 + ds.length ≤ 1000; omega) ?_
    rw [List.append_assoc]
    exact hQ
abbrev dI (ns : List Int) : List D := ns.map D.int
theorem ints_len (ns : List Int) : (dI ns).length = ns.length := by simp
theorem lcW_ints {vs : List Nat} {g : TGp} {te : TEp} {Q : List D → Ro → Prop} {h : Int → D} {ρ : Ro} {ns : List Int} (hs : ∀ x ∈ ns, ElemOk vs g te ρ (.int x) (h x)) (hl : ns.length ≤ 1000) (hQ : Q (ns.map h) ρ) : lcW vs g pYes te Q (dI ns) [] ρ := by
  refine lcW_map (f := fun d => match d with | .int x => h x | _ => .non) (dI ns) [] (fun d hd => ?_) (by simpa using hl) ?_
  · obtain ⟨x, hx, rfl⟩ := List.mem_map.mp hd
    exact hs x hx
  · rw [List.nil_append, List.map_map]
    exact hQ
theorem zipD_ints : ∀ (a b : List Int), zipD (dI a) (dI b) = List.zipWith (fun x y => .tup [.int x, .int y]) a b
  | [], _ => rfl
  | _ :: _, [] => rfl
  | x :: a, y :: b => by
    show D.tup [.int x, .int y] :: zipD (dI a) (dI b) = _
    rw [zipD_ints a b]; rfl
theorem mem_zipWith {α β γ : Type} {f : α → β → γ} : ∀ {a : List α} {b : List β} {z : γ}, z ∈ List.zipWith f a b → ∃ x y, x ∈ a ∧ y ∈ b ∧ z = f x y
  | [], _, _, h => by simp at h
  | _ :: _, [], _, h => by simp at h
  | x :: a, y :: b, z, h => by
    rw [List.zipWith_cons_cons] at h
    rcases List.mem_cons.mp h with e | h
    · exact ⟨x, y, by simp, by simp, e⟩
    · obtain ⟨u, v, hu, hv, e⟩ := mem_zipWith h
      exact ⟨u, v, by simp [hu], by simp [hv], e⟩
theorem lcW_z2 {vs : List Nat} {g : TGp} {te : TEp} {Q : List D → Ro → Prop} {h : Int → Int → D} {ρ : Ro} {a b : List Int} (hs : ∀ x ∈ a, ∀ y ∈ b, ElemOk vs g te ρ (.tup [.int x, .int y]) (h x y)) (hl : a.length ≤ 1000) (hQ : Q (List.zipWith h a b) ρ) : lcW vs g pYes te Q (zipD (dI a) (dI b)) [] ρ := by
  rw [zipD_ints]
  refine lcW_map (f := fun d => match d with | .tup [.int x, .int y] => h x y | _ => .non) _ [] (fun d hd => ?_) ?_ ?_
  · obtain ⟨x, y, hx, hy, rfl⟩ := mem_zipWith hd
    exact hs x hx y hy
  · simp; omega
  · rw [List.nil_append, List.map_zipWith]
    exact hQ
def Sq (d : D) (ns : List Int) : Prop := d = .tup (dI ns) ∨ d = .lst (dI ns)
theorem cutD_from1 (xs : List D) : cutD xs (some 1) none = xs.drop 1 := by
  unfold cutD
  rw [show HT.sIx xs.length 0 (some 1) = min 1 xs.length from HT.sIx_nat xs.length 0 1, HT.sIx_none]
  cases xs with
  | nil => rfl
  | cons x r =>
    rw [show min 1 (x :: r).length = 1 by rw [List.length_cons]; omega]
    show (List.take ((x :: r).length - 1) r) = r
    rw [List.length_cons, Nat.add_sub_cancel]
    exact List.take_length
theorem atI_zero {α : Type} (x : α) (r : List α) : atI (x :: r) 0 = some x := atI_nat (j := 0) rfl
end Pl
namespace Pl
open PySem PySem.Spec PyProof.Rows L2
theorem fnNoneB {P : Program} {w : World} {K : PySem.W.Frag} {mg : Str → Option Value} {base : Heap} {k n : Nat} {x qual : Str} {st : Stmt} {f : Addr} {fd : FuncData} {ps : List Str} (_ : Fun K x qual st f fd) : FnOk P w K mg base CX0 k f fd ps (spB K n fun _ _ _ => False) :=
  ⟨fun _ _ _ _ ⟨_, _, _, _, _, _, _, _, _, _, _, _, _, _, h, _⟩ => h.elim, fun _ _ _ _ _ _ _ _ _ _ _ _ _ ⟨_, _, _, _, _, _, _, _, _, _, _, _, _, _, h, _⟩ => h.elim⟩
theorem fnNoneA {P : Program} {w : World} {K : PySem.W.Frag} {mg : Str → Option Value} {base : Heap} {k n : Nat} {x qual : Str} {st : Stmt} {f : Addr} {fd : FuncData} {ps : List Str} (_ : Fun K x qual st f fd) : FnOk P w K mg base CX0 k f fd ps (spA K n fun _ _ => False) :=
  ⟨fun _ _ _ _ ⟨_, _, _, _, _, _, h, _⟩ => h.elim, fun _ _ _ _ _ _ _ _ _ _ _ _ _ ⟨_, _, _, _, _, _, h, _⟩ => h.elim⟩
end Pl
namespace Pl
open PySem PySem.Spec PyProof.Rows L2
variable [TJ]
def tyN : D → String
  | .non => "NoneType"
  | .bl _ => "bool"
  | .int _ => "int"
  | .str _ => "str"
  | .lst _ => "list"
  | .tup _ => "tuple"
  | .scr _ => "list"
  | .adr _ => "list"
  | .exc _ _ => "object"
def D.isInt : D → Bool
  | .int _ => true
  | .bl _ => true
  | _ => false
def D.isBl : D → Bool
  | .bl _ => true
  | _ => false
def D.isStr : D → Bool
  | .str _ => true
  | _ => false
def D.isLst : D → Bool
  | .lst _ => true
  | .scr _ => true
  | .adr _ => true
  | _ => false
def D.isTup : D → Bool
  | .tup _ => true
  | _ => false
structure IsT (n : String) (p : D → Bool) : Prop where
  kit : ∀ d, kitB (tyN d) n = some (p d)
  boot : bootBuiltins (Str.ofString n) = some (.type n)
theorem isT_int : IsT "int" D.isInt := ⟨fun d => by cases d <;> with_unfolding_all rfl, by decide +kernel⟩
theorem isT_bool : IsT "bool" D.isBl := ⟨fun d => by cases d <;> with_unfolding_all rfl, by decide +kernel⟩
theorem isT_str : IsT "str" D.isStr := ⟨fun d => by cases d <;> with_unfolding_all rfl, by decide +kernel⟩
theorem isT_list : IsT "list" D.isLst := ⟨fun d => by cases d <;> with_unfolding_all rfl, by decide +kernel⟩
theorem isT_tuple : IsT "tuple" D.isTup := ⟨fun d => by cases d <;> with_unfolding_all rfl, by decide +kernel⟩
theorem Rep.ty {K : PySem.W.Frag} {F H : Hp} (e : Same F H) {v : V} {d : D} (r : Rep K F v d) (hn : (∀ ns, d ≠ .scr ns) ∧ (∀ a, d ≠ .adr a) ∧ ∀ c y, d ≠ .exc c y) : TyX K H v (.type (tyN d)) := by
  cases r with
  | non => exact .base .non
  | bl b => exact .base (.bl b)
  | int i => exact .base (.int i)
  | str z => exact .base (.str z)
  | lst h _ => exact .base (.lst (e _ _ h))
  | tup h _ => exact .base (.tup (e _ _ h))
  | scr _ => exact absurd rfl (hn.1 _)
  | adr _ => exact absurd rfl (hn.2.1 _)
  | exc _ _ _ _ => exact absurd rfl (hn.2.2 _ _)
def notScr (d : D) (A : Prop) : Prop := match d with
  | .scr _ => False
  | .adr _ => False
  | .exc _ _ => False
  | _ => A
theorem notScr_of {d : D} {A : Prop} (h : notScr d A) : ((∀ ns, d ≠ .scr ns) ∧ (∀ a, d ≠ .adr a) ∧ ∀ c y, d ≠ .exc c y) ∧ A := by
  cases d with
  | scr ns => exact h.elim
  | adr a => exact h.elim
  | exc _ _ => exact h.elim
  | _ => exact ⟨⟨fun _ z => (by cases z), fun _ z => (by cases z), fun _ _ z => (by cases z)⟩, h⟩
section
variable {X : Cx} {e : Expr} {te : TE} {Te : TEp} {pos : Pos}
def pIsi (p : D → Bool) (Te : TEp) : TEp := fun ρ Q => Te ρ fun d ρ1 => notScr d (Q (.bl (p d)) ρ1)
theorem ppe_isi {n : String} {p : D → Bool} {fp np : Pos} (ht : IsT n p) (hg : Gl X "isinstance") (hm : X.mg "isinstance" = none) (hgn : Gl X (Str.ofString n)) (hmn : X.mg (Str.ofString n) = none) (he : PPE X e te Te) (hnn : Str.ofString n ≠ "__name__" := by decide) (hnd : (Str.ofString n == ("__debug__" : Str)) = false := by decide)
    (hs : starEach [e, .Name (Str.ofString n) np] X.env = (false, eval e X.env) :: starEach [.Name (Str.ofString n) np] X.env := by rfl) (hs2 : starEach [.Name (Str.ofString n) np] X.env = (false, eval (.Name (Str.ofString n) np) X.env) :: starEach [] X.env := by rfl) (hpl : (backTo pos (starEach [.Name (Str.ofString n) np] X.env)).any (·.1) = false := by rfl) :
    PPE X (.Call (.Name "isinstance" fp) [e, .Name (Str.ofString n) np] [] pos) (tCB (rIsi X.K) (tCons te (tCons (tC (.ty n)) tNil))) (pIsi p Te) :=
  ⟨pe_callB call_isi hg hm (by decide +kernel) (pa_cons he.pe (pa_cons (pe_bltn hgn hmn ht.boot rfl hnn hnd) pa_nil hs2) hs) (by decide) (by decide) hs hpl, fun G F H σ ρ Q R S hT k =>
    he.snd G F H σ ρ _ _ S hT fun v d F1 H1 ρ1 u1 S1 r1 q1 => by
      obtain ⟨hn, q⟩ := notScr_of q1
      exact ⟨v, .ty n, _, _, p d, rfl, .ty n, r1.ty S1.hF hn, ht.kit d, k _ _ F1 H1 ρ1 u1 S1 (.bl _) q⟩⟩
def pIsi2 (p q : D → Bool) (Te : TEp) : TEp := fun ρ Q => Te ρ fun d ρ1 => notScr d (Q (.bl (p d || q d)) ρ1)
theorem ppe_isi2 {n m : String} {p q : D → Bool} {fp np mp tp : Pos} {kk : Nat} (ht : IsT n p) (ht2 : IsT m q) (hg : Gl X "isinstance") (hm : X.mg "isinstance" = none) (hgn : Gl X (Str.ofString n)) (hmn : X.mg (Str.ofString n) = none) (hgm : Gl X (Str.ofString m)) (hmm : X.mg (Str.ofString m) = none) (he : PPE X e te Te)
    (hnn : Str.ofString n ≠ "__name__" := by decide) (hnd : (Str.ofString n == ("__debug__" : Str)) = false := by decide) (hmn' : Str.ofString m ≠ "__name__" := by decide) (hmd : (Str.ofString m == ("__debug__" : Str)) = false := by decide)
    (hs : starEach [e, .Tuple [.Name (Str.ofString n) np, .Name (Str.ofString m) mp] kk tp] X.env = (false, eval e X.env) :: starEach [.Tuple [.Name (Str.ofString n) np, .Name (Str.ofString m) mp] kk tp] X.env := by rfl)
    (hs2 : starEach [.Tuple [.Name (Str.ofString n) np, .Name (Str.ofString m) mp] kk tp] X.env = (false, eval (.Tuple [.Name (Str.ofString n) np, .Name (Str.ofString m) mp] kk tp) X.env) :: starEach [] X.env := by rfl)
    (hs3 : starEach [.Name (Str.ofString n) np, .Name (Str.ofString m) mp] X.env = (false, eval (.Name (Str.ofString n) np) X.env) :: starEach [.Name (Str.ofString m) mp] X.env := by rfl)
    (hs4 : starEach [.Name (Str.ofString m) mp] X.env = (false, eval (.Name (Str.ofString m) mp) X.env) :: starEach [] X.env := by rfl)
    (hpl : (backTo pos (starEach [.Tuple [.Name (Str.ofString n) np, .Name (Str.ofString m) mp] kk tp] X.env)).any (·.1) = false := by rfl) :
    PPE X (.Call (.Name "isinstance" fp) [e, .Tuple [.Name (Str.ofString n) np, .Name (Str.ofString m) mp] kk tp] [] pos) (tCB (rIsiT X.K) (tCons te (tCons (tTup (tCons (tC (.ty n)) (tCons (tC (.ty m)) tNil))) tNil))) (pIsi2 p q Te) :=
  ⟨pe_callB call_isiT hg hm (by decide +kernel) (pa_cons he.pe (pa_cons (pe_tup (pa_cons (pe_bltn hgn hmn ht.boot rfl hnn hnd) (pa_cons (pe_bltn hgm hmm ht2.boot rfl hmn' hmd) pa_nil hs4) hs3)) pa_nil hs2) hs) (by decide) (by decide) hs hpl, fun G F H σ ρ Q R S hT k =>
    he.snd G F H σ ρ _ _ S hT fun v d F1 H1 ρ1 u1 S1 r1 q1 => by
      obtain ⟨hn, q'⟩ := notScr_of q1
      refine ⟨by show (2 : Nat) ≤ sizeLine; decide, fun a ha => ?_⟩
      refine ⟨v, a, [.ty n, .ty m], _, [.type n, .type m], p d || q d, rfl, upd_same, .cons (.ty n) (.cons (.ty m) .nil), r1.ty (S1.hF.trans (same_new ha)) hn, ?_, k _ _ F1 _ ρ1 u1 (S1.more ha) (.bl _) q'⟩
      refine kitAny_cons (b := p d) (ht.kit d) (fun h => kitAny_cons (b := q d) (ht2.kit d) (fun h2 => by rw [h, h2]; rfl) (fun h2 => by rw [h2]; simp)) (fun h => by rw [h]; rfl)⟩
end
def okN : Nat → D → Prop
  | _, .non => True
  | _, .bl _ => True
  | _, .int _ => True
  | _, .str z => (D.str z).sh
  | n + 1, .lst xs => xs.length ≤ 1000 ∧ ∀ x ∈ xs, okN n x
  | n + 1, .tup xs => xs.length ≤ 1000 ∧ ∀ x ∈ xs, okN n x
  | _, _ => False
def gS : Nat → FA
  | 0 => fun _ _ => False
  | n + 1 => fun ds C => ∃ d, ds = [d, d] ∧ okN n d ∧ C (.val (.bl true))
end Pl
namespace Pl
open PySem PySem.Spec PyProof.Rows L2
variable [TJ]
section
variable {X : Cx}
theorem hu65 {k : Nat} {A : Around} (hr : Room k A) : A.units + 65 < cLine := by have := hr.un; omega
end
end Pl
namespace Pl
open PySem PySem.Spec PyProof.Rows L2
variable [TJ]
def pick (is : List Nat) {α : Type} (zs : List α) : List α := is.filterMap (zs[·]?)
theorem Reps.pick {K : PySem.W.Frag} {F : Hp} {vs : List V} {ds : List D} (r : Reps K F vs ds) : ∀ is : List Nat, Reps K F (pick is vs) (pick is ds)
  | [] => .nil
  | i :: is => by
    have ih := Reps.pick r is
    unfold Pl.pick at ih ⊢
    cases e : ds[i]? with
    | none =>
      have : vs[i]? = none := by
        rw [List.getElem?_eq_none_iff] at e ⊢
        rw [r.length]; exact e
      rw [List.filterMap_cons_none this, List.filterMap_cons_none e]
      exact ih
    | some d =>
      obtain ⟨v, hv, rv⟩ := r.get e
      rw [List.filterMap_cons_some hv, List.filterMap_cons_some e]
      exact .cons rv ih
theorem Vals.pick {vs : List V} {us : List Value} (r : Vals vs us) : ∀ is : List Nat, Vals (pick is vs) (pick is us)
  | [] => .nil
  | i :: is => by
    have ih := Vals.pick r is
    unfold Pl.pick at ih ⊢
    cases e : vs[i]? with
    | none =>
      have : us[i]? = none := by
        rw [List.getElem?_eq_none_iff] at e ⊢
        rw [← r.length]; exact e
      rw [List.filterMap_cons_none this, List.filterMap_cons_none e]
      exact ih
    | some v =>
      obtain ⟨u, hu, ru⟩ := L2.Vals.get r e
      rw [List.filterMap_cons_some hu, List.filterMap_cons_some e]
      exact .cons ru ih
theorem fun_kbn {K : PySem.W.Frag} {x qual : Str} {st : Stmt} {f : Addr} {fd : FuncData} {ps : List Str} (F : Fun K x qual st f fd) (ks : List Str) (is : List Nat)
    (h : ∀ (kV doc pm : Value) (an : Option Addr) (cdv ct : Value) (ws : List Value), ws.length = ks.length → bindArgs (PySem.W.fnOf x qual (defArgs st) (defBody st) (defScope st) .none kV doc pm an cdv ct) ⟨[], ks.zip ws⟩ = pure (ps.zip (pick is ws))) :
    KBn K fd ps 0 ks (fun _ ws => pick is ws) (fun _ zs => pick is zs) := by
  obtain ⟨oc, od, kV, doc, pm, an, cdv, ct, osl, rfl, lk, hcd⟩ := F.ex
  refine ⟨fun s us ws _ h0 hl => ?_, fun _ rz => Vals.pick rz is⟩
  cases us with
  | cons _ _ => cases h0
  | nil => exact .of_eq (h kV doc pm an cdv ct ws hl)
section
variable {X : Cx} {k : Nat} {f : Addr} {fd : FuncData} {ps ks : List Str} {x : Str} {p pos : Pos} {kws : List Keyword} {tk : TA} {T : TAp} {n : Nat} {is : List Nat}
structure PPK (X : Cx) (kws : List Keyword) (t : TA) (T : TAp) : Prop where
  pk : PK X kws t
  snd : SndA X.K t T
theorem ppk_nil : PPK X [] tNil pNil := ⟨pk_nil, fun G F H σ ρ Q R S hT k => k _ _ F H ρ (.refl _ _) S .nil hT⟩
theorem ppk_cons {e : Expr} {te : TE} {Te : TEp} {nm : Option Str} {kpos : Pos} {t : TA} (ha : PPE X e te Te) (hr : PPK X kws t T) : PPK X (⟨nm, e, kpos⟩ :: kws) (tCons te t) (pCons Te T) := ⟨pk_cons ha.pe hr.pk, fun G F H σ ρ Q R S hT k =>
  ha.snd G F H σ ρ _ _ S hT fun v d F1 H1 ρ1 u1 S1 r1 h1 => hr.snd G F1 H1 σ ρ1 _ _ S1 h1 fun vs ds F2 H2 ρ2 u2 S2 r2 h2 => k _ _ F2 H2 ρ2 (u1.trans u2) S2 (.cons (r1.mono u2.ex) r2) h2⟩
def pCallK (n m : Nat) (g : FA) (is : List Nat) (T : TAp) : TCp := fun ρ Q => T ρ fun ds ρ1 => ds.length = m ∧ (pick is ds).length = n ∧ g (pick is ds) fun c => Q c ρ1
theorem pe_callK0 {sp : Sp} {E : XK} {CX : CXT} {g : List Value → List Value → List Value} {gV : List V → List V → List V} (F : FnOk X.prog X.w X.K X.mg X.base CX k f fd ps sp) (hr : Room k X.A) (hg : Gl X x) (hm : X.mg x = some (.ref f)) (hk : PySem.W.keepIn X.K (.ref f) = true) (hb : KBn X.K fd ps 0 ks g gV) (hx : Passes CX X E)
    (hkw : PK X kws tk) (hall : (backToKw pos (keywordEach kws X.env)).all (·.1.isSome) = true := by rfl) (hks : (backToKw pos (keywordEach kws X.env)).filterMap (·.1) = ks := by rfl)
    (hdb : (x == ("__debug__" : Str)) = false := by decide) (hpl : ((backTo pos (starEach [] X.env)).any (·.1) || (backToKw pos (keywordEach kws X.env)).any (·.1.isNone)) = false := by rfl) :
    PE X (.Call (.Name x p) [] kws pos) (tCallN 0 ks.length sp gV E tNil tk) := by
  refine ⟨fun pins s σ H Q I h => ?_⟩
  refine wpAny_Call_Name_kw (ld_glob I hg hm ?_ hdb)
  refine PySem.W.callWith_KW0 (h₀ := X.base) I.ok.mod.kin hk hall (thn (hkw.run pos pins s σ H _ I h) fun ws s2 ⟨zs, H2, I2, rz, l1, l2, q2⟩ => ⟨I2.kIn, ?_⟩) hpl
  rw [hks]
  exact run_fnN (us := []) (vs := []) F hr hb hx I2 .nil rz rfl l2 q2
theorem ppc_callK {g : FA} {m : Nat} (Fn : FnOk X.prog X.w X.K X.mg X.base CX0 k f fd ps (spA X.K n g)) (hr : Room k X.A) (hg : Gl X x) (hm : X.mg x = some (.ref f)) (hk : PySem.W.keepIn X.K (.ref f) = true) (hb : KBn X.K fd ps 0 ks (fun _ ws => pick is ws) (fun _ zs => pick is zs)) (ha : PPK X kws tk T)
    (hall : (backToKw pos (keywordEach kws X.env)).all (·.1.isSome) = true := by rfl) (hks : (backToKw pos (keywordEach kws X.env)).filterMap (·.1) = ks := by rfl)
    (hdb : (x == ("__debug__" : Str)) = false := by decide) (hpl : ((backTo pos (starEach [] X.env)).any (·.1) || (backToKw pos (keywordEach kws X.env)).any (·.1.isNone)) = false := by rfl) (hlen : ks.length = m := by rfl) :
    PPC X (.Call (.Name x p) [] kws pos) (tCallN 0 ks.length (spA X.K n g) (fun _ zs => pick is zs) (fun _ _ _ => False) tNil tk) (pCallK n m g is T) := ⟨pe_callK0 Fn hr hg hm hk hb pass0 ha.pk hall hks hdb hpl, fun G F H σ ρ Q R S hT k =>
  ha.snd G F H σ ρ _ _ S hT fun vs ds F1 H1 ρ1 u1 S1 r1 h1 => by
    refine ⟨rfl, by rw [r1.length, hlen]; exact h1.1, F1, pick is ds, _, by rw [(r1.pick is).length]; exact h1.2.1, S1.hF, r1.pick is, h1.2.2, fun v c F' H' u S' q => k v c F' H' ρ1 (u1.trans (u.less S1.hG)) (S1.afterA u S') q⟩⟩
end
section
variable {X : Cx} {o e : Expr} {to te : TE} {To Te : TEp}
theorem toPys_get : ∀ {ds : List D} {j : Nat}, (toPys ds)[j]? = (ds[j]?).map toPy
  | [], j => by simp [toPys]
  | d :: ds, 0 => by simp [toPys]
  | d :: ds, j + 1 => by
    rw [toPys, List.getElem?_cons_succ, List.getElem?_cons_succ]; exact toPys_get
def pIndex (To Te : TEp) : TEp := fun ρ Q => To ρ fun d ρ1 => match d with
  | .lst ys => Te ρ1 fun x ρ2 => (D.lst ys).sh ∧ x.sh ∧ ∃ (j : Nat) (z : D), ys[j]? = some z ∧ z.eqv x = true ∧ (∀ (m : Nat) (z' : D), m < j → ys[m]? = some z' → z'.eqv x = false) ∧ Q (.int j) ρ2
  | _ => False
theorem ppe_index {ap cp : Pos} (hu : X.A.units + 65 < cLine) (ho : PPE X o to To) (he : PPE X e te Te)
    (hbase : attributeBase o "index" X.env (eval o X.env) = eval o X.env := by rfl)
    (hfew : ((backTo cp (starEach [e] X.env)).all (fun x => !x.1) && (backToKw cp (keywordEach [] X.env)).all (fun x => x.1.isSome)
      && decide ([e].length + ([] : List Keyword).length + (if ([] : List Keyword).isEmpty then 0 else 1) < 30)) = true := by rfl)
    (hline : (ap.endLine == cp.line) = true := by rfl) (hs : starEach [e] X.env = (false, eval e X.env) :: starEach [] X.env := by rfl) :
    PPE X (.Call (.Attribute o "index" ap) [e] [] cp) (tBM X.K "list" (rIndexD X.K) to (tCons te tNil)) (pIndex To Te) := ⟨pe_bm PySem.F.plainAttrs_list PySem.F.slot_list_index PySem.F.type_list_index (mt_indexD hu) ho.pe (pa_cons he.pe pa_nil hs) hbase hfew hline hs rfl, fun G F H σ ρ Q R S hT k =>
  ho.snd G F H σ ρ _ _ S hT fun v d F1 H1 ρ1 u1 S1 r1 q1 => by
    cases r1 with
    | @lst a vs ys h r =>
      refine ⟨.inl ⟨rfl, _, SqL.of (S1.hF _ _ h)⟩, he.snd G F1 H1 σ ρ1 _ _ S1 q1 fun w dw F2 H2 ρ2 u2 S2 r2 q2 => ?_⟩
      obtain ⟨h1, h2, j, z, e1, e2, e3, q⟩ := q2
      have rl : Rep X.K F2 (.ref a) (.lst ys) := (Rep.lst h r).mono u2.ex
      refine ⟨a, w, toPy dw, toPys ys, j, toPy z, rfl, rfl, ?_, r2.dp S2.hF h2, ?_, h2, ?_, e2, fun m z' hm hz' => ?_, k _ _ F2 H2 ρ2 (u1.trans u2) S2 (.int _) q⟩
      · have := rl.dp S2.hF h1; rw [toPy] at this; exact this
      · unfold D.sh at h1; rw [toPy] at h1; exact h1
      · rw [toPys_get, e1]; rfl
      · rw [toPys_get] at hz'
        cases e : ys[m]? with
        | none => rw [e] at hz'; cases hz'
        | some y =>
          rw [e] at hz'
          cases hz'
          exact e3 m y hm e
    | _ => exact q1.elim⟩
end
end Pl
namespace Pl
open PySem PySem.Spec PyProof.Rows L2
variable [TJ]
section
variable {X : Cx} {elt tg iter : Expr} {ifs : List Expr} {scope : Scope} {own : List (Str × Nat)} {pos : Pos} {wi : TI} {Ti : TAp} {Gp : TGp} {is : List Nat} {Tt : TTp} {Te : TEp} {vs : List Nat}
theorem pps_setLcV {i : Nat} {y : Str} {py spos : Pos} (hc : X.calm = true) (hN : X.N.Nodup) (hi : PPI X tg iter wi Ti) (ok : BlkOk X.N X.env.scope scope own)
    (hg : ∀ (s : Shared) (H : Hp) (C : Addr) (cl : List (Str × Addr)) (fp : List Addr), PTg (X.blk s H scope (compEnvC scope cl C X.env) fp) tg (liftG X.K Gp is) Gp is) (ht : ∀ (s : Shared) (H : Hp) (C : Addr) (cl : List (Str × Addr)) (fp : List Addr), PPTs (X.blk s H scope (compEnvC scope cl C X.env) fp) ifs (liftT X.K Tt) Tt)
    (he : ∀ (s : Shared) (H : Hp) (C : Addr) (cl : List (Str × Addr)) (fp : List Addr), PPE (X.blk s H scope (compEnvC scope cl C X.env) fp) elt (liftE X.K Te) Te)
    (hy : X.N[i]? = some y := by rfl) (hyl : X.env.scope.names.lookup y = some .local := by rfl)
    (hsw : swapsWith (.ListComp elt [⟨tg, iter, ifs, 0⟩] scope pos) (some (.Name y py)) spos.line X.env = pure true := by exact sw_true rfl rfl rfl (by decide +kernel)) (hs : ∀ x, foldedSetIterable iter X.env x = pure x := by intro _; rfl) (hsub : ∀ i ∈ is, i ∈ own.map (·.2) := by decide) :
    PPS X (.Assign [.Name y py] (.ListComp elt [⟨tg, iter, ifs, 0⟩] scope pos) spos) (tAsg (tLc wi (liftG X.K Gp is) (liftT X.K Tt) (liftE X.K Te) (own.map (·.2))) (gName i)) (pSet i (pVal (pLc Ti Gp Tt Te (own.map (·.2))))) :=
  ⟨(pps_setLcL (i := i) hc hN hi ok hg ht he hy hyl hsw hs hsub).ps, snd_set (ppc_val (ppe_lcL (pos := pos) hc hN hi ok hg ht he hs hsub)).snd⟩
end
end Pl
namespace Pl
open PySem PySem.Spec PyProof.Rows L2
variable [TJ]
section
variable {X : Cx} {pos : Pos}
def pReverse (i : Nat) : TSp := fun P ρ => match ρ[i]? with
  | some (some (.own a xs)) => P.nx (ρ.set i (some (.own a xs.reverse)))
  | _ => False
theorem pps_reverse (i : Nat) {x : Str} {p ap cp : Pos} (hN : X.N[i]? = some x := by rfl) (hv : Vis X.env.scope x := by first | exact Or.inl rfl | exact Or.inr (Or.inl rfl) | exact Or.inr (Or.inr rfl)) (hd : (x == ("__debug__" : Str)) = false := by decide)
    (hcd : (x == ("__classdict__" : Str)) = false := by decide)
    (hbase : attributeBase (.Name x p) "reverse" X.env (eval (.Name x p) X.env) = eval (.Name x p) X.env := by rfl)
    (hline : (ap.endLine == cp.line) = true := by rfl)
    (hsw : swapsWith (.Call (.Attribute (.Name x p) "reverse" ap) [] [] cp) none pos.line X.env = pure false := by rfl) :
    PPS X (.Expr (.Call (.Attribute (.Name x p) "reverse" ap) [] [] cp) pos) (tDrop (tBM0 X.K "list" rReverse (tVar i))) (pReverse i) := ⟨ps_expr (pe_bm0 PySem.F.plainAttrs_list PySem.F.slot_list_reverse PySem.F.type_list_reverse mt_reverse (pe_var hN hv hd hcd) hbase hline) hsw, fun G F H σ ρ P D S hT r => by
  unfold pReverse at hT
  split at hT
  · rename_i a xs e0
    obtain ⟨h1, h2, h3, vs, h4, h5⟩ := S.own i a xs e0
    exact ⟨.ref a, h1, .inl ⟨rfl, _, SqL.of h4⟩, a, vs, rfl, rfl, h4, r.nx F _ _ _ (.refl _ _) (S.mut e0 h5.reverse) hT⟩
  · exact hT.elim⟩
end
end Pl
namespace Pl
open PySem PySem.Spec PyProof.Rows L2
variable [TJ]
abbrev TCs := Ro → (List Cell → Ro → Prop) → Prop
def CellOk (K : PySem.W.Frag) (G F H : Hp) (ρ : Ro) (v : V) (c : Cell) : Prop := match c with
  | .val d => Rep K F v d
  | .own p xs => v = .ref p ∧ F p = none ∧ G p = none ∧ NotOwn ρ p ∧ ∃ us, H p = some (.lst us) ∧ Reps K F us xs
  | .box _ => False
def CellsOk (K : PySem.W.Frag) (G F H : Hp) (ρ : Ro) : List V → List Cell → Prop
  | [], [] => True
  | v :: vs, c :: cs => CellOk K G F H ρ v c ∧ CellsOk K G F H ρ vs cs ∧ ∀ p xs, c = .own p xs → ∀ q ys, Cell.own q ys ∈ cs → q ≠ p
  | _, _ => False
def SndCs (K : PySem.W.Frag) (t : TA) (T : TCs) : Prop := ∀ (G F H : Hp) (σ : L2.St) (ρ : Ro) (Q : List Cell → Ro → Prop) (R : List V → Hp → Prop), Sim K G F H σ ρ → T ρ Q →
  (∀ vs cs F' H' ρ', Up G F F' → Sim K G F' H' σ ρ' → CellsOk K G F' H' ρ' vs cs → Q cs ρ' → R vs H') → t σ H R
structure PPCs (X : Cx) (es : List Expr) (t : TA) (T : TCs) : Prop where
  pa : PA X es t
  snd : SndCs X.K t T
theorem CellsOk.gone {K : PySem.W.Frag} {G F H : Hp} {ρ : Ro} {p : Addr} {o : HO} : ∀ {vs : List V} {cs : List Cell}, CellsOk K (upd G p o) F H ρ vs cs → ∀ q ys, Cell.own q ys ∈ cs → q ≠ p
  | [], [], _, q, ys, h => by simp at h
  | v :: vs, c :: cs, g, q, ys, h => by
    rcases List.mem_cons.mp h with e | h
    · subst e
      intro z
      have := g.1.2.2.1
      rw [z, upd_same] at this
      cases this
    · exact CellsOk.gone g.2.1 q ys h
  | [], _ :: _, g, _, _, _ => g.elim
  | _ :: _, [], g, _, _, _ => g.elim
theorem CellsOk.less {K : PySem.W.Frag} {G F H : Hp} {ρ : Ro} {p : Addr} {o : HO} : ∀ {vs : List V} {cs : List Cell}, CellsOk K (upd G p o) F H ρ vs cs → CellsOk K G F H ρ vs cs
  | [], [], _ => trivial
  | v :: vs, c :: cs, g => by
    refine ⟨?_, CellsOk.less g.2.1, g.2.2⟩
    cases c with
    | val d => exact g.1
    | own q xs =>
      obtain ⟨h1, h2, h3, h4⟩ := g.1
      have n : q ≠ p := fun z => by rw [z, upd_same] at h3; cases h3
      exact ⟨h1, h2, by rw [upd_ne n] at h3; exact h3, h4⟩
    | box s => exact g.1
  | [], _ :: _, g => g.elim
  | _ :: _, [], g => g.elim
section
variable {X : Cx} {e : Expr} {es : List Expr} {te : TE} {t : TA} {T : TCs} {Tc : TCp} {pos : Pos}
def pNilC : TCs := fun ρ Q => Q [] ρ
def pConsC (Tc : TCp) (T : TCs) : TCs := fun ρ Q => Tc ρ fun c ρ1 => match c with
  | .val d => T ρ1 fun cs ρ2 => Q (.val d :: cs) ρ2
  | .own p xs => T ρ1 fun cs ρ2 => Q (.own p xs :: cs) ρ2
  | .box _ => False
theorem ppcs_nil : PPCs X [] tNil pNilC := ⟨pa_nil, fun G F H σ ρ Q R S hT k => k [] [] F H ρ (.refl _ _) S trivial hT⟩
theorem ppcs_cons (h1 : PPC X e te Tc) (h2 : PPCs X es t T) (hs : starEach (e :: es) X.env = (false, eval e X.env) :: starEach es X.env := by rfl) : PPCs X (e :: es) (tCons te t) (pConsC Tc T) := ⟨pa_cons h1.pe h2.pa hs, fun G F H σ ρ Q R S hT k =>
  h1.snd G F H σ ρ _ _ S hT fun v c F1 H1 ρ1 u1 S1 q1 => by
    cases c with
    | val d =>
      have r := S1.lastVal
      refine h2.snd G F1 H1 σ ρ1 _ _ S1.drop q1 fun vs cs F2 H2 ρ2 u2 S2 o2 q2 => k (v :: vs) (.val d :: cs) F2 H2 ρ2 (u1.trans u2) S2 ⟨r.mono u2.ex, o2, fun p xs z => by cases z⟩ q2
    | own p xs =>
      obtain ⟨rfl, h2', h3, h4, us, h5, h6⟩ := S1.lastOwn
      have S0 := S1.drop
      have SG : Sim X.K (upd G p (.lst us)) F1 H1 σ ρ1 := by
        refine ⟨S0.hF, S0.hG.guard h5, S0.len, S0.val, fun i b ys q => ?_, S0.ne, S0.bx.guard h4.2⟩
        · obtain ⟨g1, g2, g3, g4⟩ := S0.own i b ys q
          have n : b ≠ p := fun z => by subst z; exact h4.1 i ys q
          exact ⟨g1, g2, by rw [upd_ne n]; exact g3, g4⟩
      refine h2.snd (upd G p (.lst us)) F1 H1 σ ρ1 _ _ SG q1 fun vs cs F2 H2 ρ2 u2 S2 o2 q2 => ?_
      have hp2 : H2 p = some (.lst us) := S2.hG p _ upd_same
      have fp2 : F2 p = none := u2.isNone h2' upd_same
      have np2 : NotOwn ρ2 p := ⟨fun i ys q => (by
        have := (S2.own i p ys q).2.2.1
        rw [upd_same] at this; cases this), S2.bx.notG upd_same⟩
      have up2 : Up G F1 F2 := u2.less (same_new h3)
      have SF : Sim X.K G F2 H2 σ ρ2 := by
        refine ⟨S2.hF, S2.hG.less (same_new h3), S2.len, S2.val, fun i b ys q => ?_, S2.ne, S2.bx.unguard (same_new h3)⟩
        obtain ⟨g1, g2, g3, g4⟩ := S2.own i b ys q
        have n : b ≠ p := fun z => by rw [z, upd_same] at g3; cases g3
        exact ⟨g1, g2, by rw [upd_ne n] at g3; exact g3, g4⟩
      refine k (.ref p :: vs) (.own p xs :: cs) F2 H2 ρ2 (u1.trans up2) SF ⟨⟨rfl, fp2, h3, np2, us, hp2, h6.mono u2.ex⟩, o2.less, fun q xs' z w ys hw => ?_⟩ q2
      cases z
      exact o2.gone w ys hw
    | box s => exact q1.elim⟩
theorem Sim.put {K : PySem.W.Frag} {G F H : Hp} {σ : L2.St} {ρ : Ro} {v : V} {c : Cell} (S : Sim K G F H σ ρ) (i : Nat) (h : CellOk K G F H ρ v c) : Sim K G F H (σ.set i (some v)) (ρ.set i (some c)) := by
  cases c with
  | val d => exact S.setVal i h
  | own p xs =>
    obtain ⟨rfl, h2, h3, h4, us, h5, h6⟩ := h
    exact S.setOwn i h5 h2 h3 h4 h6
  | box s => exact h.elim
theorem NotOwn.put {ρ : Ro} {p : Addr} {c : Cell} {i : Nat} (h : NotOwn ρ p) (hb : ∀ t, c ≠ .box t) (hc : ∀ q ys, c = .own q ys → p ≠ q) : NotOwn (ρ.set i (some c)) p := ⟨fun j ys e => (by
  by_cases hj : i = j
  · subst hj
    by_cases hi : i < ρ.length
    · rw [List.getElem?_set_self hi] at e
      cases e
      exact hc _ _ rfl rfl
    · rw [List.getElem?_eq_none (by simpa using hi)] at e; cases e
  · rw [List.getElem?_set_ne hj] at e; exact h.1 j ys e), fun m => h.2 (set_inbox (fun t z => hb t (Option.some.inj z)) m)⟩
theorem CellOk.put {K : PySem.W.Frag} {G F H : Hp} {ρ : Ro} {v : V} {c c' : Cell} {i : Nat} (h : CellOk K G F H ρ v c) (hb : ∀ t, c' ≠ .box t) (hc : ∀ p xs, c' = .own p xs → ∀ q ys, c = .own q ys → q ≠ p) : CellOk K G F H (ρ.set i (some c')) v c := by
  cases c with
  | val d => exact h
  | own p xs =>
    obtain ⟨h1, h2, h3, h4, h5⟩ := h
    exact ⟨h1, h2, h3, h4.put hb fun q ys e => hc q ys e p xs rfl, h5⟩
  | box s => exact h.elim
theorem CellOk.noBox {K : PySem.W.Frag} {G F H : Hp} {ρ : Ro} {v : V} {c : Cell} (h : CellOk K G F H ρ v c) : ∀ t, c ≠ .box t := fun t e => by subst e; exact h
theorem CellsOk.len {K : PySem.W.Frag} {G F H : Hp} {ρ : Ro} : ∀ {vs : List V} {cs : List Cell}, CellsOk K G F H ρ vs cs → vs.length = cs.length
  | [], [], _ => rfl
  | _ :: _, _ :: _, h => congrArg (· + 1) (CellsOk.len h.2.1)
  | [], _ :: _, h => h.elim
  | _ :: _, [], h => h.elim
theorem three_cells {f : Cell → Cell → Cell → Prop} : ∀ {cs : List Cell}, (match cs with | [x, y, z] => f x y z | _ => False) → cs.length = 3
  | [], h => h.elim
  | [_], h => h.elim
  | [_, _], h => h.elim
  | [_, _, _], _ => rfl
  | _ :: _ :: _ :: _ :: _, h => h.elim
theorem len_three {α : Type} : ∀ {l : List α}, l.length = 3 → ∃ a b c, l = [a, b, c]
  | [a, b, c], _ => ⟨a, b, c, rfl⟩
def pParC3 (i j l : Nat) (T : TCs) : TSp := fun P ρ => T ρ fun cs ρ1 => match cs with | [x, y, z] => P.nx (((ρ1.set i (some x)).set j (some y)).set l (some z)) | _ => False
theorem pps_parC3 {i j l : Nat} {x y z : Str} {a b c : Expr} {ta : TA} {px py pz pt : Pos} {kt k2 pt2} (hc : X.calm = true) (hN : X.N.Nodup) (ha : PPCs X [a, b, c] ta T) (hi : X.N[i]? = some x := by rfl) (hj : X.N[j]? = some y := by rfl) (hl : X.N[l]? = some z := by rfl) (hij : i ≠ j := by decide) (hil : i ≠ l := by decide) (hjl : j ≠ l := by decide)
    (hx : X.env.scope.names.lookup x = some .local := by rfl) (hy : X.env.scope.names.lookup y = some .local := by rfl) (hz : X.env.scope.names.lookup z = some .local := by rfl)
    (hw : swappedStores [.Tuple [.Name x px, .Name y py, .Name z pz] kt pt] (.Tuple [a, b, c] k2 pt2) X.env = pure (some [x, y, z]) := by rfl)
    (hs : swapsWithSole [.Tuple [.Name x px, .Name y py, .Name z pz] kt pt] (.Tuple [a, b, c] k2 pt2) pos.line X.env = pure false := by rfl) :
    PPS X (.Assign [.Tuple [.Name x px, .Name y py, .Name z pz] kt pt] (.Tuple [a, b, c] k2 pt2) pos) (tPar3 i j l ta) (pParC3 i j l T) := ⟨ps_par3 hc hN hi hj hl hij hil hjl hx hy hz ha.pa hw hs, fun G F H σ ρ P D S hT r =>
  ha.snd G F H σ ρ _ _ S hT fun vs cs F' H' ρ' u S' o q => by
    have l3 := three_cells q
    obtain ⟨c1, c2, c3, rfl⟩ := len_three l3
    obtain ⟨v1, v2, v3, rfl⟩ := len_three (o.len.trans l3)
    refine ⟨v1, v2, v3, rfl, r.nx F' H' _ _ u (((S'.put i o.1).put j (o.2.1.1.put o.1.noBox fun p xs e w ys e2 => ?_)).put l ((o.2.1.2.1.1.put o.1.noBox fun p xs e w ys e2 => ?_).put o.2.1.1.noBox fun p xs e w ys e2 => ?_)) q⟩
    · subst e2; exact o.2.2 p xs e w ys (by simp)
    · subst e2; exact o.2.2 p xs e w ys (by simp)
    · subst e2; exact o.2.1.2.2 p xs e w ys (by simp)⟩
end
end Pl
namespace Pl
def cutFrom (s p : Int) : List Int → List Int
  | [] => []
  | h :: r => min h (p + s) :: cutFrom s (min h (p + s)) r
def cutOn (s : Int) : List Int → List Int
  | [] => []
  | x :: r => x :: cutFrom s x r
def cutBack (s : Int) : List Int → List Int
  | [] => []
  | x :: r => match cutBack s r with
    | [] => [x]
    | b :: t => min x (b + s) :: b :: t
def cutTo (s : Int) (ns : List Int) : List Int := (cutOn s (cutOn s ns).reverse).reverse
def fillTo (s : Int) (ns : List Int) : List Int := (cutTo s (ns.map (fun x => -x))).map (fun x => -x)
def UpL (s : Int) : List Int → Prop
  | x :: y :: r => y ≤ x + s ∧ UpL s (y :: r)
  | _ => True
def UpR (s : Int) : List Int → Prop
  | x :: y :: r => x ≤ y + s ∧ UpR s (y :: r)
  | _ => True
def Gentle (s : Int) (l : List Int) : Prop := UpL s l ∧ UpR s l
def Lq : List Int → List Int → Prop
  | x :: xs, y :: ys => x ≤ y ∧ Lq xs ys
  | [], [] => True
  | _, _ => False
theorem Lq.refl : ∀ l : List Int, Lq l l
  | [] => trivial
  | x :: l => ⟨Int.le_refl x, Lq.refl l⟩
theorem Lq.trans : ∀ {a b c : List Int}, Lq a b → Lq b c → Lq a c
  | [], [], [], _, _ => trivial
  | x :: a, y :: b, z :: c, h, g => ⟨Int.le_trans h.1 g.1, Lq.trans h.2 g.2⟩
  | [], [], _ :: _, _, g => g.elim
  | [], _ :: _, _, h, _ => h.elim
  | _ :: _, [], _, h, _ => h.elim
  | _ :: _, _ :: _, [], _, g => g.elim
theorem Lq.antisymm : ∀ {a b : List Int}, Lq a b → Lq b a → a = b
  | [], [], _, _ => rfl
  | x :: a, y :: b, h, g => by rw [Int.le_antisymm h.1 g.1, Lq.antisymm h.2 g.2]
  | [], _ :: _, h, _ => h.elim
  | _ :: _, [], h, _ => h.elim
theorem Lq.length : ∀ {a b : List Int}, Lq a b → a.length = b.length
  | [], [], _ => rfl
  | _ :: a, _ :: b, h => by simp [Lq.length h.2]
  | [], _ :: _, h => h.elim
  | _ :: _, [], h => h.elim
theorem cutFrom_len (s : Int) : ∀ (p : Int) (l : List Int), (cutFrom s p l).length = l.length
  | _, [] => rfl
  | p, h :: r => by simp [cutFrom, cutFrom_len s _ r]
theorem cutOn_len (s : Int) : ∀ l : List Int, (cutOn s l).length = l.length
  | [] => rfl
  | x :: r => by simp [cutOn, cutFrom_len]
theorem cutTo_len (s : Int) (l : List Int) : (cutTo s l).length = l.length := by
  unfold cutTo
  rw [List.length_reverse, cutOn_len, List.length_reverse, cutOn_len]
theorem fillTo_len (s : Int) (l : List Int) : (fillTo s l).length = l.length := by
  unfold fillTo
  rw [List.length_map, cutTo_len, List.length_map]
theorem cutFrom_snoc (s : Int) (x : Int) : ∀ (p : Int) (l : List Int), cutFrom s p (l ++ [x]) = cutFrom s p l ++ [min x ((cutFrom s p l).getLastD p + s)]
  | p, [] => rfl
  | p, h :: r => by
    show min h (p + s) :: cutFrom s (min h (p + s)) (r ++ [x]) = min h (p + s) :: (cutFrom s (min h (p + s)) r ++ [min x ((min h (p + s) :: cutFrom s (min h (p + s)) r).getLastD p + s)])
    rw [cutFrom_snoc s x _ r, List.getLastD_cons]
theorem cutOn_snoc (s x y : Int) (l : List Int) : cutOn s ((y :: l) ++ [x]) = cutOn s (y :: l) ++ [min x ((cutOn s (y :: l)).getLastD 0 + s)] := by
  show y :: cutFrom s y (l ++ [x]) = y :: (cutFrom s y l ++ [min x ((y :: cutFrom s y l).getLastD 0 + s)])
  rw [cutFrom_snoc, List.getLastD_cons]
theorem cutBack_ne {s : Int} {x : Int} {r : List Int} : cutBack s (x :: r) ≠ [] := by
  unfold cutBack
  split <;> simp
theorem getLastD_rev {α : Type} (d b : α) (t : List α) : ((b :: t).reverse).getLastD d = b := by
  rw [List.reverse_cons, List.getLastD_concat]
theorem cutOn_rev (s : Int) : ∀ l : List Int, cutOn s l.reverse = (cutBack s l).reverse
  | [] => rfl
  | [x] => rfl
  | x :: y :: r => by
    have ih := cutOn_rev s (y :: r)
    have e : (x :: y :: r).reverse = (y :: r).reverse ++ [x] := List.reverse_cons
    rw [e]
    cases h : (y :: r).reverse with
    | nil => simp at h
    | cons z t =>
      rw [cutOn_snoc, ← h, ih]
      show _ = (match cutBack s (y :: r) with
        | [] => [x]
        | b :: t => min x (b + s) :: b :: t).reverse
      cases hb : cutBack s (y :: r) with
      | nil => exact absurd hb cutBack_ne
      | cons b t' =>
        rw [getLastD_rev]
        show (b :: t').reverse ++ [min x (b + s)] = (min x (b + s) :: b :: t').reverse
        rw [List.reverse_cons (a := min x (b + s))]
theorem cutTo_eq (s : Int) (l : List Int) : cutTo s l = cutBack s (cutOn s l) := by
  unfold cutTo
  rw [cutOn_rev, List.reverse_reverse]
theorem cutFrom_le (s : Int) : ∀ (p : Int) (l : List Int), Lq (cutFrom s p l) l
  | _, [] => trivial
  | p, h :: r => ⟨Int.min_le_left _ _, cutFrom_le s _ r⟩
theorem cutOn_le (s : Int) : ∀ l : List Int, Lq (cutOn s l) l
  | [] => trivial
  | x :: r => ⟨Int.le_refl x, cutFrom_le s x r⟩
theorem cutFrom_upL (s : Int) : ∀ (p : Int) (l : List Int), UpL s (p :: cutFrom s p l)
  | _, [] => trivial
  | p, h :: r => ⟨Int.min_le_right _ _, cutFrom_upL s _ r⟩
theorem cutOn_upL (s : Int) : ∀ l : List Int, UpL s (cutOn s l)
  | [] => trivial
  | x :: r => cutFrom_upL s x r
theorem cutBack_le (s : Int) : ∀ l : List Int, Lq (cutBack s l) l
  | [] => trivial
  | x :: r => by
    have ih := cutBack_le s r
    unfold cutBack
    cases hb : cutBack s r with
    | nil => rw [hb] at ih; cases r with
      | nil => exact ⟨Int.le_refl x, trivial⟩
      | cons _ _ => exact ih.elim
    | cons b t => rw [hb] at ih; exact ⟨Int.min_le_left _ _, ih⟩
theorem cutBack_upR (s : Int) : ∀ l : List Int, UpR s (cutBack s l)
  | [] => trivial
  | x :: r => by
    have ih := cutBack_upR s r
    unfold cutBack
    cases hb : cutBack s r with
    | nil => exact trivial
    | cons b t => rw [hb] at ih; exact ⟨Int.min_le_right _ _, ih⟩
theorem cutBack_upL {s : Int} (h0 : 0 ≤ s) : ∀ l : List Int, UpL s l → UpL s (cutBack s l)
  | [], _ => trivial
  | [x], _ => trivial
  | x :: y :: r, h => by
    have ih := cutBack_upL h0 (y :: r) h.2
    have le := cutBack_le s (y :: r)
    show UpL s (match cutBack s (y :: r) with | [] => [x] | b :: t => min x (b + s) :: b :: t)
    cases hb : cutBack s (y :: r) with
    | nil => exact trivial
    | cons b t =>
      rw [hb] at ih le
      have h1 := h.1
      have h2 : b ≤ y := le.1
      refine ⟨?_, ih⟩
      omega
theorem cutFrom_max {s : Int} : ∀ {p q : Int} {b l : List Int}, q ≤ p → UpL s (q :: b) → Lq b l → Lq b (cutFrom s p l)
  | _, _, [], [], _, _, _ => trivial
  | p, q, x :: b, h :: r, hq, hu, hl => by
    have h1 := hu.1
    have h2 := hl.1
    have h3 : x ≤ min h (p + s) := by omega
    exact ⟨h3, cutFrom_max h3 hu.2 hl.2⟩
  | _, _, [], _ :: _, _, _, h => h.elim
  | _, _, _ :: _, [], _, _, h => h.elim
theorem cutOn_max {s : Int} : ∀ {b l : List Int}, UpL s b → Lq b l → Lq b (cutOn s l)
  | [], [], _, _ => trivial
  | x :: b, y :: l, hu, hl => ⟨hl.1, cutFrom_max hl.1 hu hl.2⟩
  | [], _ :: _, _, h => h.elim
  | _ :: _, [], _, h => h.elim
theorem cutBack_max {s : Int} : ∀ {b l : List Int}, UpR s b → Lq b l → Lq b (cutBack s l)
  | [], [], _, _ => trivial
  | [x], [y], _, hl => hl
  | x :: z :: b, y :: w :: l, hu, hl => by
    have ih := cutBack_max (b := z :: b) (l := w :: l) hu.2 hl.2
    show Lq (x :: z :: b) (match cutBack s (w :: l) with | [] => [y] | b :: t => min y (b + s) :: b :: t)
    cases hb : cutBack s (w :: l) with
    | nil => exact absurd hb cutBack_ne
    | cons c t =>
      rw [hb] at ih
      have h1 := hu.1
      have h2 := hl.1
      have h3 := ih.1
      exact ⟨by omega, ih⟩
  | [_], _ :: _ :: _, _, h => h.2.elim
  | _ :: _ :: _, [_], _, h => h.2.elim
  | [], _ :: _, _, h => h.elim
  | _ :: _, [], _, h => h.elim
theorem cutTo_gentle {s : Int} (h0 : 0 ≤ s) (l : List Int) : Gentle s (cutTo s l) := by
  rw [cutTo_eq]
  exact ⟨cutBack_upL h0 _ (cutOn_upL s l), cutBack_upR s _⟩
theorem cutTo_le (s : Int) (l : List Int) : Lq (cutTo s l) l := by
  rw [cutTo_eq]
  exact (cutBack_le s _).trans (cutOn_le s l)
theorem cutTo_max {s : Int} {b l : List Int} (hb : Gentle s b) (h : Lq b l) : Lq b (cutTo s l) := by
  rw [cutTo_eq]
  exact cutBack_max hb.2 (cutOn_max hb.1 h)
def gap (x y : Int) : Int := if y - x < 0 then -(y - x) else y - x
def gaps : List Int → List Int
  | x :: y :: r => gap x y :: gaps (y :: r)
  | _ => []
theorem foldl_min_ge {m a : Int} : ∀ {l : List Int}, m ≤ l.foldl min a ↔ m ≤ a ∧ ∀ x ∈ l, m ≤ x
  | [] => by simp
  | y :: l => by
    rw [List.foldl_cons, foldl_min_ge (l := l)]
    constructor
    · intro ⟨h, g⟩
      refine ⟨by omega, fun x hx => ?_⟩
      rcases List.mem_cons.mp hx with e | hx
      · omega
      · exact g x hx
    · intro ⟨h, g⟩
      have := g y (by simp)
      exact ⟨by omega, fun x hx => g x (by simp [hx])⟩
theorem foldl_min_mem {a : Int} : ∀ {l : List Int}, l.foldl min a ∈ a :: l
  | [] => by simp
  | y :: l => by
    rw [List.foldl_cons]
    rcases List.mem_cons.mp (foldl_min_mem (a := min a y) (l := l)) with h | h
    · rw [h]
      rcases (show min a y = a ∨ min a y = y by omega) with e | e
      · rw [e]; simp
      · rw [e]; simp
    · simp [h]
end Pl
namespace Pl
def aI (i : Int) : Int := if i < 0 then -i else i
def minOf : List Int → Int
  | [] => 0
  | x :: r => r.foldl min x
def maxOf : List Int → Int
  | [] => 0
  | x :: r => r.foldl max x
theorem minOf_le {l : List Int} {x : Int} (h : x ∈ l) : minOf l ≤ x := by
  cases l with
  | nil => simp at h
  | cons y r =>
    have := (foldl_min_ge (m := r.foldl min y) (a := y) (l := r)).mp (Int.le_refl _)
    rcases List.mem_cons.mp h with e | h
    · rw [e]; exact this.1
    · exact this.2 x h
theorem minOf_mem {l : List Int} (h : l ≠ []) : minOf l ∈ l := by
  cases l with
  | nil => exact absurd rfl h
  | cons y r => exact foldl_min_mem
theorem le_minOf {l : List Int} {m : Int} (hl : l ≠ []) (h : ∀ x ∈ l, m ≤ x) : m ≤ minOf l := h _ (minOf_mem hl)
theorem foldl_neg : ∀ (l : List Int) (a : Int), (l.map (fun x => -x)).foldl max (-a) = -(l.foldl min a)
  | [], _ => rfl
  | x :: l, a => by
    rw [List.map_cons, List.foldl_cons, List.foldl_cons, show max (-a) (-x) = -(min a x) by omega, foldl_neg l]
theorem maxOf_neg (l : List Int) : maxOf (l.map (fun x => -x)) = -(minOf l) := by
  cases l with
  | nil => rfl
  | cons x r => exact foldl_neg r x
def reach (s : Int) (l : List Int) (i : Int) : List Int := (List.range l.length).map fun (j : Nat) => l.getD j 0 + s * aI (i - (j : Int))
def reachF (s : Int) (l : List Int) (i : Int) : List Int := (List.range l.length).map fun (j : Nat) => l.getD j 0 - s * aI (i - (j : Int))
def cutAll (s : Int) (l : List Int) : List Int := (List.range l.length).map fun (i : Nat) => minOf (reach s l i)
def fillAll (s : Int) (l : List Int) : List Int := (List.range l.length).map fun (i : Nat) => maxOf (reachF s l i)
theorem lq_of_get : ∀ {a b : List Int}, a.length = b.length → (∀ i, i < a.length → a.getD i 0 ≤ b.getD i 0) → Lq a b
  | [], [], _, _ => trivial
  | x :: a, y :: b, hl, h => ⟨by have := h 0 (by simp); simpa using this, lq_of_get (by simpa using hl) fun i hi => by
      have := h (i + 1) (by simp; omega)
      simpa using this⟩
  | [], _ :: _, h, _ => by simp at h
  | _ :: _, [], h, _ => by simp at h
theorem lq_get : ∀ {a b : List Int}, Lq a b → ∀ i, a.getD i 0 ≤ b.getD i 0
  | [], [], _, _ => Int.le_refl _
  | x :: a, y :: b, h, 0 => by simpa using h.1
  | x :: a, y :: b, h, i + 1 => by simpa using lq_get h.2 i
  | [], _ :: _, h, _ => h.elim
  | _ :: _, [], h, _ => h.elim
theorem upL_of {s : Int} : ∀ {l : List Int}, (∀ i, i + 1 < l.length → l.getD (i + 1) 0 ≤ l.getD i 0 + s) → UpL s l
  | [], _ => trivial
  | [_], _ => trivial
  | x :: y :: r, h => ⟨by have := h 0 (by simp); simpa using this, upL_of fun i hi => by
      have := h (i + 1) (by simp at hi ⊢; omega)
      simpa using this⟩
theorem upR_of {s : Int} : ∀ {l : List Int}, (∀ i, i + 1 < l.length → l.getD i 0 ≤ l.getD (i + 1) 0 + s) → UpR s l
  | [], _ => trivial
  | [_], _ => trivial
  | x :: y :: r, h => ⟨by have := h 0 (by simp); simpa using this, upR_of fun i hi => by
      have := h (i + 1) (by simp at hi ⊢; omega)
      simpa using this⟩
theorem upL_get {s : Int} : ∀ {l : List Int}, UpL s l → ∀ i, i + 1 < l.length → l.getD (i + 1) 0 ≤ l.getD i 0 + s
  | [], _, _, h => by simp at h
  | [_], _, _, h => by simp at h
  | x :: y :: r, h, 0, _ => by simpa using h.1
  | x :: y :: r, h, i + 1, hi => by
    have := upL_get h.2 i (by simp at hi ⊢; omega)
    simpa using this
theorem upR_get {s : Int} : ∀ {l : List Int}, UpR s l → ∀ i, i + 1 < l.length → l.getD i 0 ≤ l.getD (i + 1) 0 + s
  | [], _, _, h => by simp at h
  | [_], _, _, h => by simp at h
  | x :: y :: r, h, 0, _ => by simpa using h.1
  | x :: y :: r, h, i + 1, hi => by
    have := upR_get h.2 i (by simp at hi ⊢; omega)
    simpa using this
theorem upL_far {s : Int} {l : List Int} (h : UpL s l) (i : Nat) : ∀ d, i + d < l.length → l.getD (i + d) 0 ≤ l.getD i 0 + s * d
  | 0, _ => by simp
  | d + 1, hd => by
    have h1 := upL_far h i d (by omega)
    have h2 := upL_get h (i + d) (by omega)
    have e : s * ((d + 1 : Nat) : Int) = s * d + s := by rw [show ((d + 1 : Nat) : Int) = (d : Int) + 1 by omega, Int.mul_add, Int.mul_one]
    rw [show i + (d + 1) = i + d + 1 by omega]
    omega
theorem upR_far {s : Int} {l : List Int} (h : UpR s l) (i : Nat) : ∀ d, i + d < l.length → l.getD i 0 ≤ l.getD (i + d) 0 + s * d
  | 0, _ => by simp
  | d + 1, hd => by
    have h1 := upR_far h i d (by omega)
    have h2 := upR_get h (i + d) (by omega)
    have e : s * ((d + 1 : Nat) : Int) = s * d + s := by rw [show ((d + 1 : Nat) : Int) = (d : Int) + 1 by omega, Int.mul_add, Int.mul_one]
    rw [show i + (d + 1) = i + d + 1 by omega]
    omega
theorem gentle_far {s : Int} {l : List Int} (h : Gentle s l) (i j : Nat) (hi : i < l.length) (hj : j < l.length) : l.getD i 0 ≤ l.getD j 0 + s * aI ((i : Int) - j) := by
  rcases Nat.le_total i j with g | g
  · have := upR_far h.2 i (j - i) (by omega)
    rw [show i + (j - i) = j by omega] at this
    rw [show aI ((i : Int) - j) = ((j - i : Nat) : Int) by unfold aI; split <;> omega]
    exact this
  · have := upL_far h.1 j (i - j) (by omega)
    rw [show j + (i - j) = i by omega] at this
    rw [show aI ((i : Int) - j) = ((i - j : Nat) : Int) by unfold aI; split <;> omega]
    exact this
theorem cutAll_len (s : Int) (l : List Int) : (cutAll s l).length = l.length := by simp [cutAll]
theorem fillAll_len (s : Int) (l : List Int) : (fillAll s l).length = l.length := by simp [fillAll]
theorem reach_ne {s i : Int} {l : List Int} (h : l ≠ []) : reach s l i ≠ [] := by
  cases l with
  | nil => exact absurd rfl h
  | cons x r => simp [reach]
theorem cutAll_get {s : Int} {l : List Int} {i : Nat} (hi : i < l.length) : (cutAll s l).getD i 0 = minOf (reach s l i) := by
  unfold cutAll
  rw [List.getD_eq_getElem?_getD, List.getElem?_map, List.getElem?_range hi]; rfl
theorem mem_reach {s i x : Int} {l : List Int} : x ∈ reach s l i ↔ ∃ j, j < l.length ∧ x = l.getD j 0 + s * aI (i - (j : Int)) := by
  unfold reach
  rw [List.mem_map]
  constructor
  · rintro ⟨j, hj, e⟩; exact ⟨j, List.mem_range.mp hj, e.symm⟩
  · rintro ⟨j, hj, e⟩; exact ⟨j, List.mem_range.mpr hj, e.symm⟩
theorem cutAll_le (s : Int) (l : List Int) : Lq (cutAll s l) l := by
  refine lq_of_get (cutAll_len s l) fun i hi => ?_
  rw [cutAll_len] at hi
  rw [cutAll_get hi]
  have := minOf_le (mem_reach (s := s) (i := (i : Int)) (l := l) |>.mpr ⟨i, hi, rfl⟩)
  rw [show aI ((i : Int) - i) = 0 by unfold aI; split <;> omega, Int.mul_zero] at this
  omega
theorem mul_step {s a b : Int} (h0 : 0 ≤ s) (h : a ≤ b + 1) : s * a ≤ s * b + s := by
  have := Int.mul_le_mul_of_nonneg_left h h0
  rw [Int.mul_add, Int.mul_one] at this
  exact this
theorem aI_step {a b : Int} (h : a - b ≤ 1) (g : b - a ≤ 1) : aI a ≤ aI b + 1 := by
  unfold aI; split <;> split <;> omega
theorem cutAll_near {s : Int} (h0 : 0 ≤ s) {l : List Int} (hne : l ≠ []) (i k : Int) (h : i - k ≤ 1) (g : k - i ≤ 1) : minOf (reach s l i) ≤ minOf (reach s l k) + s := by
  obtain ⟨j, hj, e⟩ := mem_reach.mp (minOf_mem (reach_ne (s := s) (i := k) hne))
  have h1 := minOf_le (mem_reach (s := s) (i := i) (l := l) |>.mpr ⟨j, hj, rfl⟩)
  have h2 : s * aI (i - j) ≤ s * aI (k - j) + s := mul_step h0 (aI_step (by omega) (by omega))
  omega
theorem cutAll_gentle {s : Int} (h0 : 0 ≤ s) (l : List Int) : Gentle s (cutAll s l) := by
  refine ⟨upL_of fun i hi => ?_, upR_of fun i hi => ?_⟩ <;> rw [cutAll_len] at hi
  · rw [cutAll_get hi, cutAll_get (by omega)]
    exact cutAll_near h0 (by intro e; subst e; simp at hi) _ _ (by omega) (by omega)
  · rw [cutAll_get hi, cutAll_get (by omega)]
    exact cutAll_near h0 (by intro e; subst e; simp at hi) _ _ (by omega) (by omega)
theorem cutAll_max {s : Int} {b l : List Int} (hb : Gentle s b) (h : Lq b l) : Lq b (cutAll s l) := by
  have hl := h.length
  refine lq_of_get (by rw [cutAll_len]; exact hl) fun i hi => ?_
  rw [cutAll_get (by omega)]
  refine le_minOf (reach_ne (by intro e; subst e; simp at hl; simp [hl] at hi)) fun x hx => ?_
  obtain ⟨j, hj, e⟩ := mem_reach.mp hx
  have h1 := gentle_far hb i j hi (by omega)
  have h2 := lq_get h j
  omega
theorem cutTo_all {s : Int} (h0 : 0 ≤ s) (l : List Int) : cutTo s l = cutAll s l :=
  (cutAll_max (cutTo_gentle h0 l) (cutTo_le s l)).antisymm (cutTo_max (cutAll_gentle h0 l) (cutAll_le s l))
theorem reachF_neg (s : Int) (l : List Int) (i : Int) : reachF s l i = (reach s (l.map (fun x => -x)) i).map (fun x => -x) := by
  unfold reachF reach
  rw [List.map_map, List.length_map]
  apply List.map_congr_left
  intro j hj
  have hj := List.mem_range.mp hj
  show l.getD j 0 - s * aI (i - j) = -((l.map (fun x => -x)).getD j 0 + s * aI (i - j))
  rw [List.getD_eq_getElem?_getD, List.getD_eq_getElem?_getD, List.getElem?_map, List.getElem?_eq_getElem hj]
  show l[j] - s * aI (i - j) = -(-l[j] + s * aI (i - j))
  omega
theorem fillTo_all {s : Int} (h0 : 0 ≤ s) (l : List Int) : fillTo s l = fillAll s l := by
  unfold fillTo fillAll
  rw [cutTo_all h0]
  unfold cutAll
  rw [List.map_map, List.length_map]
  apply List.map_congr_left
  intro i _
  show -(minOf (reach s (l.map (fun x => -x)) i)) = maxOf (reachF s l i)
  rw [reachF_neg, maxOf_neg]
end Pl
namespace Pl
theorem UpL.mono {s t : Int} (h : s ≤ t) : ∀ {l : List Int}, UpL s l → UpL t l
  | [], _ => trivial
  | [_], _ => trivial
  | x :: y :: r, g => ⟨by have := g.1; omega, UpL.mono h g.2⟩
theorem UpR.mono {s t : Int} (h : s ≤ t) : ∀ {l : List Int}, UpR s l → UpR t l
  | [], _ => trivial
  | [_], _ => trivial
  | x :: y :: r, g => ⟨by have := g.1; omega, UpR.mono h g.2⟩
theorem Gentle.mono {s t : Int} (h : s ≤ t) {l : List Int} (g : Gentle s l) : Gentle t l := ⟨g.1.mono h, g.2.mono h⟩
theorem upL_append {s x y : Int} : ∀ {a b : List Int}, UpL s (a ++ [x]) → UpL s (y :: b) → y ≤ x + s → UpL s (a ++ x :: y :: b)
  | [], _, _, h2, h => ⟨h, h2⟩
  | [a], _, h1, h2, h => ⟨h1.1, h, h2⟩
  | a :: c :: l, _, h1, h2, h => ⟨h1.1, upL_append (a := c :: l) h1.2 h2 h⟩
theorem upR_append {s x y : Int} : ∀ {a b : List Int}, UpR s (a ++ [x]) → UpR s (y :: b) → x ≤ y + s → UpR s (a ++ x :: y :: b)
  | [], _, _, h2, h => ⟨h, h2⟩
  | [a], _, h1, h2, h => ⟨h1.1, h, h2⟩
  | a :: c :: l, _, h1, h2, h => ⟨h1.1, upR_append (a := c :: l) h1.2 h2 h⟩
theorem upL_reverse {s : Int} : ∀ {l : List Int}, UpL s l → UpR s l.reverse
  | [], _ => trivial
  | [_], _ => trivial
  | x :: y :: r, h => by
    have ih := upL_reverse (l := y :: r) h.2
    rw [List.reverse_cons] at ih ⊢
    rw [List.reverse_cons, List.append_assoc]
    exact upR_append ih trivial h.1
theorem upR_reverse {s : Int} : ∀ {l : List Int}, UpR s l → UpL s l.reverse
  | [], _ => trivial
  | [_], _ => trivial
  | x :: y :: r, h => by
    have ih := upR_reverse (l := y :: r) h.2
    rw [List.reverse_cons] at ih ⊢
    rw [List.reverse_cons, List.append_assoc]
    exact upL_append ih trivial h.1
theorem Gentle.reverse {s : Int} {l : List Int} (h : Gentle s l) : Gentle s l.reverse := ⟨upR_reverse h.2, upL_reverse h.1⟩
end Pl
namespace Pl
open PySem PySem.Spec PyProof.Rows L2
abbrev N_mirrored : List Str := [("dune" : Str)]
def T_mirrored : TSp :=
  (pRet (pVal (pCB fTup (pCons (pUn fRev (pVar 0)) pNil))))
abbrev N_upside : List Str := [("dune" : Str), ("height" : Str)]
def T_upside : TSp :=
  (pRet (pVal (pCB fTup (pCons (pLc (jSeq (pVar 0)) (hName 1) pYes (pUn fNeg (pVar 1)) [1]) pNil))))
abbrev N_blown : List Str := [("dune" : Str), ("wind" : Str), ("word" : Str), ("slope" : Str)]
def T_blown (g_upside : FA) (g_cut_to : FA) : TSp :=
  (pSeq (pAsg (pVar 1) (hTup 2 (hCons (hName 2) (hCons (hName 3) hNil))))
    (pSeq (pIfS (pTest (pOp fEq (pVar 2) (pC (.str "cut"))))
    (pRet (pCallA 2 g_cut_to (pCons (pVar 0) (pCons (pVar 3) pNil))))
    pNext)
    (pRet (pCallA 1 g_upside (pCons (pFrz (pCallA 2 g_cut_to (pCons (pFrz (pCallA 1 g_upside (pCons (pVar 0) pNil))) (pCons (pVar 3) pNil)))) pNil)))))
abbrev N_cut_to : List Str := [("dune" : Str), ("slope" : Str), ("onward" : Str)]
def T_cut_to (g_mirrored : FA) (g_cut_onward : FA) : TSp :=
  (pSeq (pSet 2 (pCallA 2 g_cut_onward (pCons (pVar 0) (pCons (pVar 1) pNil))))
    (pRet (pCallA 1 g_mirrored (pCons (pFrz (pCallA 2 g_cut_onward (pCons (pFrz (pCallA 1 g_mirrored (pCons (pVar 2) pNil))) (pCons (pVar 1) pNil)))) pNil))))
abbrev N_cut_onward : List Str := [("dune" : Str), ("slope" : Str), ("heights" : Str), ("height" : Str)]
def T_cut_onward : TSp :=
  (pSeq (pSet 2 (pLstO (pCons (pIxO 0 (pC (.int 0))) pNil)))
    (pSeq (pFor (jSeq (pSl (pVar 0) (pPart (pC (.int 1))) pNoPart)) (hName 3)
    (pAppend 2 (pCB fMin2 (pCons (pVar 3) (pCons (pOp fAdd (pIxO 2 (pUn fNeg (pC (.int 1)))) (pVar 1)) pNil)))))
    (pRet (pMove 2))))
abbrev N__law_cell_at : List Str := [("_law_script" : Str), ("_law_k" : Str)]
def T__law_cell_at : TSp :=
  (pSeq (pIfS (pTest (pOp fLt (pVar 1) (pLenO 0)))
    (pRet (pVal (pIxO 0 (pVar 1))))
    pNext)
    (pRet (pVal (pC (.int 0)))))
abbrev N__law_box : List Str := [("_law_script" : Str), ("_law_k" : Str), ("_law_cell" : Str)]
def T__law_box (g__law_cell_at : FA) : TSp :=
  (pSeq (pSet 2 (pCallA 2 g__law_cell_at (pCons (pVar 0) (pCons (pVar 1) pNil))))
    (pRet (pLstO (pCons (pOp fMulI (pCB fAbs (pCons (pVar 2) pNil)) (pCB fInt1 (pCons (pOp fGe (pCB fAbs (pCons (pVar 2) pNil)) (pC (.int 1000000000000000000))) pNil))) (pCons (pOp fAdd (pOp fAdd (pOp fMod (pVar 2) (pC (.int 2305843009213693951))) (pOp fMulI (pC (.int 39373)) (pVar 1))) (pC (.int 17))) (pCons (pC (.int 0)) pNil))))))
abbrev N__law_take : List Str := [("_law_box_here" : Str), ("_law_size" : Str), ("_law_told" : Str), ("_law_once" : Str), ("_law_twice" : Str)]
def T__law_take (g__law_take : FB) : TSp :=
  (pSeq (pIfS (pTest (pOp fGt (pIxO 0 (pC (.int 0))) (pC (.int 0))))
    (pSeq (pSet 2 (pVal (pOp fMod (pIxO 0 (pC (.int 0))) (pVar 1))))
    (pSeq (pStore 0 (pC (.int 0)) (pOp fDiv (pIxO 0 (pC (.int 0))) (pVar 1)))
    (pRet (pMove 2))))
    pNext)
    (pSeq (pIfS (pTest (pOp fGt (pVar 1) (pC (.int 10000000))))
    (pRet (pVal (pOp fMod (pOp fAdd (pFrz (pCallB 0 2 g__law_take (pCons (pC (.int 10000000)) pNil))) (pOp fMulI (pC (.int 10000000)) (pFrz (pCallB 0 2 g__law_take (pCons (pOp fAdd (pOp fDiv (pOp fSub (pVar 1) (pC (.int 1))) (pC (.int 10000000))) (pC (.int 1))) pNil))))) (pVar 1))))
    pNext)
    (pSeq (pStore 0 (pC (.int 2)) (pOp fAdd (pIxO 0 (pC (.int 2))) (pC (.int 1))))
    (pSeq (pSet 3 (pVal (pOp fMod (pOp fMulI (pOp fAdd (pIxO 0 (pC (.int 1))) (pOp fMulI (pC (.int 48271)) (pIxO 0 (pC (.int 2))))) (pOp fAdd (pC (.int 39373)) (pIxO 0 (pC (.int 2))))) (pC (.int 2147483647)))))
    (pSeq (pSet 4 (pVal (pOp fMod (pOp fMulI (pOp fAdd (pOp fAdd (pVar 3) (pIxO 0 (pC (.int 2)))) (pOp fDiv (pIxO 0 (pC (.int 1))) (pC (.int 1000003)))) (pOp fAdd (pOp fMod (pVar 3) (pC (.int 40009))) (pC (.int 7)))) (pC (.int 2147483629)))))
    (pRet (pVal (pOp fMod (pOp fDiv (pOp fMod (pOp fAdd (pOp fMulI (pVar 4) (pC (.int 48271))) (pVar 3)) (pC (.int 2147483587))) (pC (.int 64))) (pVar 1)))))))))
abbrev N__law_dune : List Str := [("_law_box_here" : Str), ("_law_size" : Str), ("_law_many" : Str), ("_law_wide" : Str), ("_law_told" : Str), ("_law_pole" : Str)]
def T__law_dune (g__law_take : FB) : TSp :=
  (pSeq (pPar 2 3 (pCons (pOp fAdd (pC (.int 1)) (pFrz (pCallB 0 2 g__law_take (pCons (pVar 1) pNil)))) (pCons (pOp fIx (pLst (pCons (pC (.int 2)) (pCons (pC (.int 12)) (pCons (pC (.int 60)) (pCons (pC (.int 1000000000)) pNil))))) (pFrz (pCallB 0 2 g__law_take (pCons (pC (.int 4)) pNil)))) pNil)))
    (pSeq (pSet 4 (pLstO pNil))
    (pSeq (pFor (jRng1 (pCons (pVar 2) pNil)) (hName 5)
    (pAppend 4 (pOp fIx (pLst (pCons (pC (.int 0)) (pCons (pVar 3) (pCons (pOp fSub (pFrz (pCallB 0 2 g__law_take (pCons (pOp fAdd (pOp fMulI (pC (.int 2)) (pVar 3)) (pC (.int 1))) pNil))) (pVar 3)) (pCons (pFrz (pCallB 0 2 g__law_take (pCons (pOp fAdd (pVar 3) (pC (.int 1))) pNil))) pNil))))) (pFrz (pCallB 0 2 g__law_take (pCons (pC (.int 4)) pNil))))))
    (pRet (pVal (pCB fTup (pCons (pVar 4) pNil)))))))
abbrev N_days : List Str := [("dune" : Str), ("almanac" : Str), ("rows" : Str), ("wind" : Str)]
def T_days (g_blown : FA) : TSp :=
  (pSeq (pSet 2 (pLstO (pCons (pCB fTup (pCons (pVar 0) pNil)) pNil)))
    (pSeq (pFor (jSeq (pVar 1)) (hName 3)
    (pAppend 2 (pFrz (pCallA 2 g_blown (pCons (pIxO 2 (pUn fNeg (pC (.int 1)))) (pCons (pVar 3) pNil))))))
    (pRet (pMove 2))))
abbrev N__law_same : List Str := [("_law_told" : Str), ("_law_due" : Str), ("_law_here" : Str), ("_law_two" : Str)]
def T__law_same (g__law_same : FA) : TSp :=
  (pSeq (pIfS (pTest (pIsi2 D.isLst D.isTup (pVar 1)))
    (pSeq (pIfS (pOr (pTest (pOp fNe (pIsi D.isLst (pVar 0)) (pIsi D.isLst (pVar 1)))) (pTest (pOp fNe (pIsi D.isTup (pVar 0)) (pIsi D.isTup (pVar 1)))))
    (pRet (pVal (pC (.bl false))))
    pNext)
    (pRet (pVal (pAndV (pOp fEq (pLenO 0) (pLenO 1)) (pCB fAll (pCons (pLc (jZ2 (pCons (pVar 0) (pCons (pVar 1) pNil))) (hTup 2 (hCons (hName 2) (hCons (hName 3) hNil))) pYes (pFrz (pCallA 2 g__law_same (pCons (pVar 2) (pCons (pVar 3) pNil)))) [2, 3]) pNil))))))
    pNext)
    (pSeq (pIfS (pOr (pTest (pOp fIsN (pVar 1) (pC .non))) (pTest (pIsi2 D.isBl D.isStr (pVar 1))))
    (pRet (pVal (pAndV (pOp fEq (pVar 0) (pVar 1)) (pAndV (pOp fEq (pIsi D.isBl (pVar 0)) (pIsi D.isBl (pVar 1))) (pOp fEq (pOp fIsN (pVar 0) (pC .non)) (pOp fIsN (pVar 1) (pC .non)))))))
    pNext)
    (pRet (pVal (pAndV (pIsi D.isInt (pVar 0)) (pAndV (pNotV (pIsi D.isBl (pVar 0))) (pOp fEq (pVar 0) (pVar 1))))))))
abbrev N__law_blown : List Str := [("_law_hill" : Str), ("_law_gust" : Str), ("_law_sign" : Str), ("_law_slope_here" : Str), ("_law_told" : Str), ("_law_i" : Str), ("_law_j" : Str)]
def T__law_blown : TSp :=
  (pSeq (pAsg (pVar 1) (hTup 2 (hCons (hName 2) (hCons (hName 3) hNil))))
    (pSeq (pSet 4 (pLstO pNil))
    (pSeq (pFor (jRng1 (pCons (pLenO 0) pNil)) (hName 5)
    (pIfS (pTest (pOp fEq (pVar 2) (pC (.str "cut"))))
    (pAppend 4 (pCB (fBest min) (pCons (pLc (jRng1 (pCons (pLenO 0) pNil)) (hName 6) pYes (pOp fAdd (pIxO 0 (pVar 6)) (pOp fMulI (pVar 3) (pCB fAbs (pCons (pOp fSub (pVar 5) (pVar 6)) pNil)))) [6]) pNil)))
    (pAppend 4 (pCB (fBest max) (pCons (pLc (jRng1 (pCons (pLenO 0) pNil)) (hName 6) pYes (pOp fSub (pIxO 0 (pVar 6)) (pOp fMulI (pVar 3) (pCB fAbs (pCons (pOp fSub (pVar 5) (pVar 6)) pNil)))) [6]) pNil)))))
    (pRet (pVal (pCB fTup (pCons (pVar 4) pNil)))))))
abbrev N__law_slope : List Str := [("_law_box_here" : Str)]
def T__law_slope (g__law_take : FB) : TSp :=
  (pRet (pCallB 0 2 g__law_take (pCons (pOp fIx (pLst (pCons (pC (.int 4)) (pCons (pC (.int 9)) (pCons (pC (.int 40)) (pCons (pC (.int 1000000000)) pNil))))) (pFrz (pCallB 0 2 g__law_take (pCons (pC (.int 4)) pNil)))) pNil)))
abbrev N__law_winds : List Str := [("_law_box_here" : Str), ("_law_size" : Str), ("_law_turn" : Str)]
def T__law_winds (g__law_take : FB) (g__law_slope : FB) : TSp :=
  (pRet (pLcO (jRng1 (pCons (pFrz (pCallB 0 2 g__law_take (pCons (pOp fAdd (pVar 1) (pC (.int 1))) pNil))) pNil)) (hName 2) pYes (pTup (pCons (pOp fIx (pLst (pCons (pC (.str "cut")) (pCons (pC (.str "fill")) pNil))) (pFrz (pCallB 0 2 g__law_take (pCons (pC (.int 2)) pNil)))) (pCons (pFrz (pCallB 0 1 g__law_slope pNil)) pNil))) [2]))
end Pl
namespace Pl
open PySem PySem.Spec PyProof.Rows L2
def g_mirrored : FA := fun ds C => ∃ d ns, ds = [d] ∧ Sq d ns ∧ C (.val (.tup (dI ns.reverse)))
def g_upside : FA := fun ds C => ∃ d ns, ds = [d] ∧ Sq d ns ∧ ns.length ≤ 1000 ∧ C (.val (.tup (dI (ns.map fun x => -x))))
def g_cut_onward : FA := fun ds C => ∃ d ns s, ds = [d, .int s] ∧ Sq d ns ∧ ns ≠ [] ∧ ns.length ≤ 1000 ∧ ∀ a, C (.own a (dI (cutOn s ns)))
def g_cut_to : FA := fun ds C => ∃ d ns s, ds = [d, .int s] ∧ Sq d ns ∧ ns ≠ [] ∧ ns.length ≤ 1000 ∧ C (.val (.tup (dI (cutTo s ns))))
theorem rd_mirrored : ∀ ds C, ds.length = 1 → g_mirrored ds C → T_mirrored { nx := fun _ => C (.val .non), rt := fun c _ => C c } (startA N_mirrored ds) := by
  rintro ds C - ⟨d, ns, rfl, hd, hC⟩
  unfold dI at hC
  rw [List.map_reverse] at hC
  rcases hd with rfl | rfl <;> exact hC
theorem rd_upside : ∀ ds C, ds.length = 1 → g_upside ds C → T_upside { nx := fun _ => C (.val .non), rt := fun c _ => C c } (startA N_upside ds) := by
  rintro ds C - ⟨d, ns, rfl, hd, hl, hC⟩
  have key : lcW [1] (hName 1) pYes (pUn fNeg (pVar 1)) (fun acc ρ2 => C (.val (.tup acc))) (dI ns) [] [some (.val d), none] := by
    refine lcW_ints (h := fun x => .int (-x)) (fun x _ K hK => hK _ rfl) hl ?_
    unfold dI at hC
    rw [List.map_map] at hC
    exact hC
  rcases hd with rfl | rfl <;> exact key
theorem rd_cut_onward : ∀ ds C, ds.length = 2 → g_cut_onward ds C → T_cut_onward { nx := fun _ => C (.val .non), rt := fun c _ => C c } (startA N_cut_onward ds) := by
  rintro ds C - ⟨d, ns, s, rfl, hd, hne, hl, hC⟩
  cases ns with
  | nil => exact absurd rfl hne
  | cons x r =>
    have key : ∀ (dd : D) (a : Addr) (w : Option Cell) (P : PEnds), (∀ ρ, (∃ w, ρ = [some (.val dd), some (.val (.int s)), some (.own a (dI (cutOn s (x :: r)))), w]) → P.nx ρ) → forW (hName 3) (pAppend 2 (pCB fMin2 (pCons (pVar 3) (pCons (pOp fAdd (pIxO 2 (pUn fNeg (pC (.int 1)))) (pVar 1)) pNil)))) P (dI r) [some (.val dd), some (.val (.int s)), some (.own a [.int x]), w] := by
      intro dd a w P hP
      refine for_inv (fun ds ρ => ∃ (done : List Int) (p : Int) (rest : List Int) (w : Option Cell), ds = dI rest ∧ ρ = [some (.val dd), some (.val (.int s)), some (.own a (dI (done ++ [p]))), w] ∧ cutOn s (x :: r) = done ++ p :: cutFrom s p rest) (fun d rst ρ K hK hI => ?_) (fun ρ hI => ?_) (dI r) _ ⟨[], x, r, w, rfl, rfl, rfl⟩
      · obtain ⟨done, p, rest, w, e1, rfl, e3⟩ := hI
        cases rest with
        | nil => cases e1
        | cons h rest =>
          cases e1
          have hlen : (dI (done ++ [p])).length ≤ 1000 := by
            have := congrArg List.length e3
            rw [cutOn_len] at this
            simp at this ⊢
            simp at hl
            omega
          refine ⟨dI (done ++ [p]), -1, .int p, rfl, rfl, ?_, dI (done ++ [p]), rfl, small1000 hlen, ?_⟩
          · rw [show dI (done ++ [p]) = dI done ++ [.int p] from by simp]
            exact atI_last _ _
          · refine hK _ ⟨done ++ [p], min h (p + s), rest, some (.val (.int h)), rfl, ?_, ?_⟩
            · rw [show dI (done ++ [p] ++ [min h (p + s)]) = dI (done ++ [p]) ++ [.int (min h (p + s))] from by simp]
              rfl
            · rw [e3]; simp [cutFrom]
      · obtain ⟨done, p, rest, w, e1, rfl, e3⟩ := hI
        cases rest with
        | cons h rest => cases e1
        | nil =>
          refine hP _ ⟨w, ?_⟩
          rw [e3]; rfl
    have hz : (1 : Nat) ≤ sizeLine := by decide
    rcases hd with rfl | rfl
    · refine ⟨.int x, atI_zero _ _, hz, fun a => ?_⟩
      show forW _ _ _ (cutD (dI (x :: r)) (some 1) none) _
      rw [cutD_from1]
      refine key _ a _ _ fun ρ ⟨w, e⟩ => ?_
      subst e
      exact hC a
    · refine ⟨.int x, atI_zero _ _, hz, fun a => ?_⟩
      show forW _ _ _ (cutD (dI (x :: r)) (some 1) none) _
      rw [cutD_from1]
      refine key _ a _ _ fun ρ ⟨w, e⟩ => ?_
      subst e
      exact hC a
theorem rev_ne {l : List Int} (h : l ≠ []) : l.reverse ≠ [] := by simpa using h
theorem ne_len {l m : List Int} (h : l.length = m.length) (hm : m ≠ []) : l ≠ [] := by
  intro e; subst e; cases m with
  | nil => exact hm rfl
  | cons _ _ => cases h
theorem rd_cut_to : ∀ ds C, ds.length = 2 → g_cut_to ds C → T_cut_to g_mirrored g_cut_onward { nx := fun _ => C (.val .non), rt := fun c _ => C c } (startA N_cut_to ds) := by
  rintro ds C - ⟨d, ns, s, rfl, hd, hne, hl, hC⟩
  refine ⟨rfl, d, ns, s, rfl, hd, hne, hl, fun a => ?_⟩
  refine ⟨rfl, _, cutOn s ns, rfl, .inr rfl, rfl, _, (cutOn s ns).reverse, s, rfl, .inl rfl, rev_ne (ne_len (cutOn_len s ns) hne), by rw [List.length_reverse, cutOn_len]; exact hl, fun b => ?_⟩
  exact ⟨rfl, _, _, rfl, .inr rfl, hC⟩
def wordS : Bool → Str
  | true => "cut"
  | false => "fill"
def windD (cut : Bool) (s : Int) : D := .tup [.str (wordS cut), .int s]
def blownL (cut : Bool) (s : Int) (ns : List Int) : List Int := if cut = true then cutTo s ns else fillTo s ns
def g_blown : FA := fun ds C => ∃ d ns cut s, ds = [d, windD cut s] ∧ Sq d ns ∧ ns ≠ [] ∧ ns.length ≤ 1000 ∧ C (.val (.tup (dI (blownL cut s ns))))
theorem sh_cut : (D.str "cut").sh := by unfold D.sh; decide +kernel
theorem sh_fill : (D.str "fill").sh := by unfold D.sh; decide +kernel
theorem sh_int (i : Int) : (D.int i).sh := by unfold D.sh toPy; rfl
theorem sh_bl (i : Bool) : (D.bl i).sh := by unfold D.sh toPy; rfl
theorem canLay_ints : ∀ ns : List Int, PyData.canLayAll0 (toPys (dI ns)) = true
  | [] => rfl
  | n :: ns => by
    show (PyData.canLay0 (toPy (.int n)) && PyData.canLayAll0 (toPys (dI ns))) = true
    rw [canLay_ints ns]; rfl
theorem depth_dI : ∀ ns : List Int, PyData.depthAll (toPys (dI ns)) = 0
  | [] => rfl
  | n :: ns => by
    show max (PyData.depth (toPy (.int n))) (PyData.depthAll (toPys (dI ns))) = 0
    rw [depth_dI ns]; rfl
theorem sh_lstI (ns : List Int) : (D.lst (dI ns)).sh := by
  show (PyData.canLayAll0 (toPys (dI ns)) && decide (PyData.depthAll (toPys (dI ns)) + 1 ≤ 64)) = true
  rw [canLay_ints, depth_dI]; rfl
theorem eqv_bl (a b : Bool) : (D.bl a).eqv (.bl b) = (a == b) := rfl
theorem eqv_int (a b : Int) : (D.int a).eqv (.int b) = (a == b) := rfl
theorem rd_blown : ∀ ds C, ds.length = 2 → g_blown ds C → T_blown g_upside g_cut_to { nx := fun _ => C (.val .non), rt := fun c _ => C c } (startA N_blown ds) := by
  rintro ds C - ⟨d, ns, cut, s, rfl, hd, hne, hl, hC⟩
  cases cut with
  | true =>
    refine ⟨rfl, rfl, sh_cut, sh_cut, ifT (by decide +kernel) ?_⟩
    exact ⟨rfl, d, ns, s, rfl, hd, hne, hl, hC⟩
  | false =>
    refine ⟨rfl, rfl, sh_fill, sh_cut, ifF (by decide +kernel) ?_⟩
    refine ⟨rfl, d, ns, rfl, hd, hl, rfl, _, _, s, rfl, .inl rfl, by simpa using hne, by simpa using hl, rfl, _, _, rfl, .inl rfl, by rw [cutTo_len]; simpa using hl, ?_⟩
    exact hC
def g__law_cell_at : FA := fun ds C => ∃ ns k, ds = [.scr ns, .int k] ∧ 0 ≤ k ∧ ∀ n, C (.val (.int n))
theorem rd__law_cell_at : ∀ ds C, ds.length = 2 → g__law_cell_at ds C → T__law_cell_at { nx := fun _ => C (.val .non), rt := fun c _ => C c } (startA N__law_cell_at ds) := by
  rintro ds C - ⟨ns, k, rfl, hk, hC⟩
  refine ifB (fun h => ?_) (fun h => ?_)
  · have h := dT h
    obtain ⟨j, rfl⟩ := Int.eq_ofNat_of_zero_le hk
    have hj : j < ns.length := by simpa using h
    exact ⟨ns[j], atI_nat (List.getElem?_eq_getElem hj), hC _⟩
  · exact hC _
def Bx (n : Nat) (xs : List D) : Prop := ∃ a b c : Int, xs = [.int a, .int b, .int c] ∧ 0 ≤ a ∧ 0 ≤ b ∧ b ≤ 2 ^ 62 ∧ 0 ≤ c ∧ c ≤ n
theorem Bx.mono {n m : Nat} {xs : List D} (h : Bx n xs) (hm : n ≤ m) : Bx m xs := by
  obtain ⟨a, b, c, h1, h2, h3, h4, h5, h6⟩ := h
  exact ⟨a, b, c, h1, h2, h3, h4, h5, by omega⟩
def g__law_box : FA := fun ds C => ∃ ns k, ds = [.scr ns, .int k] ∧ 0 ≤ k ∧ k ≤ 1000000 ∧ ∀ a xs, Bx 0 xs → C (.own a xs)
theorem iabs_nonneg (i : Int) : 0 ≤ iabs i := by unfold iabs; split <;> omega
theorem rd__law_box : ∀ ds C, ds.length = 2 → g__law_box ds C → T__law_box g__law_cell_at { nx := fun _ => C (.val .non), rt := fun c _ => C c } (startA N__law_box ds) := by
  rintro ds C - ⟨ns, k, rfl, hk, hk2, hC⟩
  refine ⟨rfl, ns, k, rfl, hk, fun n => ?_⟩
  refine ⟨.inr ?_, (by show (0 : Int) < 2305843009213693951; decide), .inl (by constructor <;> decide), by show (3 : Nat) ≤ sizeLine; decide, fun a => hC a _ ⟨_, _, _, rfl, ?_, ?_, ?_, Int.le_refl _, Int.le_refl _⟩⟩
  · constructor <;> split <;> decide
  · refine Int.mul_nonneg (iabs_nonneg n) ?_
    split <;> decide
  · have := Int.emod_nonneg n (b := 2305843009213693951) (by decide)
    omega
  · have := Int.emod_lt_of_pos n (b := 2305843009213693951) (by decide)
    omega
def g_take (top : Int) : FB := fun xs ds C => ∃ n size, n ≤ 1000000000000 ∧ Bx n xs ∧ ds = [.int size] ∧ 0 < size ∧ size ≤ top ∧ ∀ r ys, 0 ≤ r → r < size → Bx (n + 2) ys → C (.val (.int r)) ys
def g_none : FB := fun _ _ _ => False
def g_take0 : FB := fun xs ds C => ∃ n size, n ≤ 1000000000001 ∧ Bx n xs ∧ ds = [.int size] ∧ 0 < size ∧ size ≤ 10000000 ∧ ∀ r ys, 0 ≤ r → r < size → Bx (n + 1) ys → C (.val (.int r)) ys
theorem rd_take0g (gg : FB) : ∀ a xs ds C, ds.length + 1 = 2 → g_take0 xs ds C → T__law_take gg { nx := fun ρ => ∃ ys, ρ[0]? = some (some (.own a ys)) ∧ C (.val .non) ys, rt := fun c ρ => ∃ ys, ρ[0]? = some (some (.own a ys)) ∧ C c ys } (startB N__law_take a xs ds) := by
  rintro a xs ds C - ⟨n, size, hn, ⟨b0, b1, b2, rfl, h0, h1, h1', h2, h2'⟩, rfl, hs0, hs, hC⟩
  refine ⟨_, _, _, rfl, rfl, rfl, ifB (fun h => ?_) (fun h => ?_)⟩
  · have h := dT h
    refine ⟨_, _, _, rfl, rfl, rfl, hs0, _, _, _, rfl, rfl, rfl, ⟨hs0, by omega⟩, _, _, _, rfl, rfl, rfl, _, rfl, hC _ _ (Int.emod_nonneg _ (by omega)) (Int.emod_lt_of_pos _ hs0) ⟨_, _, _, rfl, Int.ediv_nonneg h0 (by omega), h1, h1', h2, by omega⟩⟩
  · refine ifF (decide_eq_false (by omega)) ?_
    refine ⟨_, _, _, rfl, rfl, rfl, _, _, _, rfl, rfl, rfl, ?_⟩
    refine ⟨_, _, _, rfl, rfl, rfl, _, _, _, rfl, rfl, rfl, .inl ⟨by decide, by decide⟩, _, _, _, rfl, rfl, rfl, .inr ⟨?_, ?_⟩, (by show (0 : Int) < 2147483647; decide), ?_⟩
    · show (-(2 ^ 64) : Int) < 39373 + (b2 + 1); omega
    · show (39373 + (b2 + 1) : Int) < 2 ^ 64; omega
    refine ⟨_, _, _, rfl, rfl, rfl, _, _, _, rfl, rfl, rfl, ⟨by decide, by decide⟩, (by show (0 : Int) < 40009; decide), .inr ⟨?_, ?_⟩, (by show (0 : Int) < 2147483629; decide), ?_⟩
    · have := Int.emod_nonneg ((b1 + 48271 * (b2 + 1)) * (39373 + (b2 + 1)) % 2147483647) (b := 40009) (by decide)
      show (-(2 ^ 64) : Int) < (b1 + 48271 * (b2 + 1)) * (39373 + (b2 + 1)) % 2147483647 % 40009 + 7
      omega
    · have := Int.emod_lt_of_pos ((b1 + 48271 * (b2 + 1)) * (39373 + (b2 + 1)) % 2147483647) (b := 40009) (by decide)
      show (b1 + 48271 * (b2 + 1)) * (39373 + (b2 + 1)) % 2147483647 % 40009 + 7 < (2 ^ 64 : Int)
      omega
    refine ⟨.inr ⟨by decide, by decide⟩, (by show (0 : Int) < 2147483587; decide), ⟨by decide, by decide⟩, hs0, _, rfl, hC _ _ (Int.emod_nonneg _ (by omega)) (Int.emod_lt_of_pos _ hs0) ⟨_, _, _, rfl, h0, h1, h1', by omega, ?_⟩⟩
    show b2 + 1 ≤ ((n + 1 : Nat) : Int)
    omega
theorem rd_take0 : ∀ a xs ds C, ds.length + 1 = 2 → g_take0 xs ds C → T__law_take g_none { nx := fun ρ => ∃ ys, ρ[0]? = some (some (.own a ys)) ∧ C (.val .non) ys, rt := fun c ρ => ∃ ys, ρ[0]? = some (some (.own a ys)) ∧ C c ys } (startB N__law_take a xs ds) := rd_take0g g_none
theorem rd_take : ∀ a xs ds C, ds.length + 1 = 2 → g_take 100000000000000 xs ds C → T__law_take g_take0 { nx := fun ρ => ∃ ys, ρ[0]? = some (some (.own a ys)) ∧ C (.val .non) ys, rt := fun c ρ => ∃ ys, ρ[0]? = some (some (.own a ys)) ∧ C c ys } (startB N__law_take a xs ds) := by
  rintro a xs ds C - ⟨n, size, hn, hB, rfl, hs0, hs, hC⟩
  have hB' := hB
  obtain ⟨b0, b1, b2, rfl, h0, h1, h1', h2, h2'⟩ := hB
  by_cases hbig : size ≤ 10000000
  · exact rd_take0g g_take0 a _ _ C rfl ⟨n, size, by omega, hB', rfl, hs0, hbig, fun r ys q1 q2 q3 => hC r ys q1 q2 (q3.mono (by omega))⟩
  · refine ⟨_, _, _, rfl, rfl, rfl, ifB (fun h => ?_) (fun h => ?_)⟩
    · have h := dT h
      refine ⟨_, _, _, rfl, rfl, rfl, hs0, _, _, _, rfl, rfl, rfl, ⟨hs0, by omega⟩, _, _, _, rfl, rfl, rfl, _, rfl, hC _ _ (Int.emod_nonneg _ (by omega)) (Int.emod_lt_of_pos _ hs0) ⟨_, _, _, rfl, Int.ediv_nonneg h0 (by omega), h1, h1', h2, by omega⟩⟩
    · refine ifT (decide_eq_true (by omega)) ?_
      refine ⟨_, rfl, rfl, n, 10000000, by omega, hB', rfl, by decide, by decide, fun r1 ys1 q1 q2 q3 => ?_⟩
      have e1 : 0 ≤ (size - 1) / 10000000 := Int.ediv_nonneg (by omega) (by decide)
      have e2 : (size - 1) / 10000000 < 10000000 := Int.ediv_lt_of_lt_mul (by decide) (by omega)
      refine ⟨⟨by decide, by decide⟩, _, rfl, rfl, n + 1, (size - 1) / 10000000 + 1, by omega, q3, rfl, by omega, by omega, fun r2 ys2 p1 p2 p3 => ?_⟩
      refine ⟨.inl ⟨by decide, by decide⟩, hs0, _, rfl, hC _ _ (Int.emod_nonneg _ (by omega)) (Int.emod_lt_of_pos _ hs0) p3⟩
theorem mem_of_atI {α : Type} {xs : List α} {i : Int} {v : α} (h : atI xs i = some v) : v ∈ xs := by
  obtain ⟨j, _, h2, _⟩ := atI_get h
  exact List.mem_of_getElem? h2
theorem atI_below {α : Type} {xs : List α} {i : Int} (h0 : 0 ≤ i) (h1 : i < xs.length) : ∃ v, atI xs i = some v := by
  obtain ⟨j, rfl⟩ := Int.eq_ofNat_of_zero_le h0
  exact ⟨xs[j]'(by omega), atI_nat (List.getElem?_eq_getElem (by omega))⟩
def g__law_dune : FB := fun xs ds C => ∃ n size, n ≤ 100000000000 ∧ Bx n xs ∧ ds = [.int size] ∧ 0 < size ∧ size ≤ 100 ∧ ∀ ns zs, ns ≠ [] → (ns.length : Int) ≤ size → (∀ x ∈ ns, -1000000000 ≤ x ∧ x ≤ 1000000000) → Bx (n + 2000) zs → C (.val (.tup (dI ns))) zs
theorem rd__law_dune : ∀ a xs ds C, ds.length + 1 = 2 → g__law_dune xs ds C → T__law_dune (g_take 100000000000000) { nx := fun ρ => ∃ ys, ρ[0]? = some (some (.own a ys)) ∧ C (.val .non) ys, rt := fun c ρ => ∃ ys, ρ[0]? = some (some (.own a ys)) ∧ C c ys } (startB N__law_dune a xs ds) := by
  rintro a xs ds C - ⟨n, size, hn, hB, rfl, hs0, hs, hC⟩
  refine ⟨_, rfl, rfl, n, size, by omega, hB, rfl, by omega, by omega, fun many ys1 q1 q2 q3 => ?_⟩
  refine ⟨by show (4 : Nat) ≤ sizeLine; decide, _, rfl, rfl, n + 2, 4, by omega, q3, rfl, by decide, by decide, fun r2 ys2 p1 p2 p3 => ?_⟩
  obtain ⟨v, hv⟩ := atI_below (xs := [D.int 2, .int 12, .int 60, .int 1000000000]) p1 p2
  refine ⟨v, hv, ?_⟩
  obtain ⟨wide, rfl, hw0, hw⟩ : ∃ wide, v = .int wide ∧ 0 < wide ∧ wide ≤ 1000000000 := by
    have := mem_of_atI hv
    simp at this
    rcases this with e | e | e | e <;> subst e <;> exact ⟨_, rfl, by decide, by decide⟩
  refine ⟨by show (0 : Nat) ≤ sizeLine; decide, fun b => ⟨by show (-(2 ^ 62) : Int) ≤ 1 + many; omega, by show (1 + many : Int) < 2 ^ 62; omega, ?_⟩⟩
  have key : ∀ (m : Nat) (P : PEnds), (∀ ρ, (∃ w ns zs, ρ = [some (.own a zs), some (.val (.int size)), some (.val (.int (1 + many))), some (.val (.int wide)), some (.own b (dI ns)), w] ∧ ns.length = m ∧ (∀ x ∈ ns, -1000000000 ≤ x ∧ x ≤ 1000000000) ∧ Bx (n + 4 + 8 * m) zs) → P.nx ρ) → m ≤ 100 →
      forW (hName 5) (pAppend 4 (pOp fIx (pLst (pCons (pC (.int 0)) (pCons (pVar 3) (pCons (pOp fSub (pFrz (pCallB 0 2 (g_take 100000000000000) (pCons (pOp fAdd (pOp fMulI (pC (.int 2)) (pVar 3)) (pC (.int 1))) pNil))) (pVar 3)) (pCons (pFrz (pCallB 0 2 (g_take 100000000000000) (pCons (pOp fAdd (pVar 3) (pC (.int 1))) pNil))) pNil))))) (pFrz (pCallB 0 2 (g_take 100000000000000) (pCons (pC (.int 4)) pNil))))) P (rangeD 0 m) [some (.own a ys2), some (.val (.int size)), some (.val (.int (1 + many))), some (.val (.int wide)), some (.own b []), none] := by
    intro m P hP hm
    refine for_inv (fun ds ρ => ∃ w ns zs, ds.length + ns.length = m ∧ ρ = [some (.own a zs), some (.val (.int size)), some (.val (.int (1 + many))), some (.val (.int wide)), some (.own b (dI ns)), w] ∧ (∀ x ∈ ns, -1000000000 ≤ x ∧ x ≤ 1000000000) ∧ Bx (n + 4 + 8 * ns.length) zs) (fun d rst ρ K hK hI => ?_) (fun ρ hI => ?_) (rangeD 0 m) _ ⟨none, [], ys2, by simp [rangeD], rfl, by simp, p3⟩
    · obtain ⟨w, ns, zs, hl, rfl, hx, hb⟩ := hI
      have hl' : rst.length + 1 + ns.length = m := hl
      refine ⟨.inl ⟨by decide, by decide⟩, _, rfl, rfl, _, _, ?_, hb, rfl, by omega, by omega, fun r3 ys3 a1 a2 a3 => ?_⟩
      · omega
      refine ⟨_, rfl, rfl, _, _, ?_, a3, rfl, by omega, by omega, fun r4 ys4 b1 b2 b3 => ?_⟩
      · omega
      refine ⟨by show (4 : Nat) ≤ sizeLine; decide, _, rfl, rfl, _, _, ?_, b3, rfl, by decide, by decide, fun r5 ys5 c1 c2 c3 => ?_⟩
      · omega
      obtain ⟨v, hv⟩ := atI_below (xs := [D.int 0, .int wide, .int (r3 - wide), .int r4]) c1 c2
      refine ⟨v, hv, dI ns, rfl, small1000 (by rw [ints_len]; omega), ?_⟩
      obtain ⟨h, rfl, hh⟩ : ∃ h, v = .int h ∧ -1000000000 ≤ h ∧ h ≤ 1000000000 := by
        have := mem_of_atI hv
        simp at this
        rcases this with e | e | e | e <;> subst e <;> exact ⟨_, rfl, by omega, by omega⟩
      refine hK _ ⟨some (.val d), ns ++ [h], ys5, by simp; omega, ?_, fun x hx' => ?_, ?_⟩
      · rw [show dI (ns ++ [h]) = dI ns ++ [.int h] from by simp]; rfl
      · rcases List.mem_append.mp hx' with hx' | hx'
        · exact hx x hx'
        · have := List.mem_singleton.mp hx'; subst this; exact hh
      · exact c3.mono (by simp; omega)
    · obtain ⟨w, ns, zs, hl, rfl, hx, hb⟩ := hI
      have hl : ns.length = m := by simpa using hl
      subst hl
      exact hP _ ⟨w, ns, zs, rfl, rfl, hx, hb⟩
  refine key (1 + many).toNat _ (fun ρ ⟨w, ns, zs, e, hl, hx, hb⟩ => ?_) (by omega)
  subst e
  have h1 : (ns.length : Int) = 1 + many := by omega
  refine ⟨zs, rfl, hC ns zs (fun e => by subst e; simp at h1; omega) (by omega) hx (hb.mono (by omega))⟩
end Pl
namespace Pl
open PySem PySem.Spec PyProof.Rows L2
def g_law : FA := fun ds C => ∃ ns, ds = [.scr ns] ∧ ns.length ≤ 63 ∧ C (.val (.bl true))
theorem zip_int {f : Int → Int → Int} : ∀ {a b : List Int}, List.zipWith (fun x y => D.int (f x y)) a b = dI (List.zipWith f a b)
  | [], _ => rfl
  | _ :: _, [] => rfl
  | x :: a, y :: b => by
    show D.int (f x y) :: List.zipWith (fun x y => D.int (f x y)) a b = D.int (f x y) :: dI (List.zipWith f a b)
    rw [zip_int]
theorem zip_bl {f : Int → Int → Bool} : ∀ {a b : List Int}, List.zipWith (fun x y => D.bl (f x y)) a b = (List.zipWith f a b).map D.bl
  | [], _ => rfl
  | _ :: _, [] => rfl
  | x :: a, y :: b => by
    show D.bl (f x y) :: List.zipWith (fun x y => D.bl (f x y)) a b = D.bl (f x y) :: (List.zipWith f a b).map D.bl
    rw [zip_bl]
end Pl
namespace Pl
open PySem PySem.Spec PyProof.Rows L2
theorem eqv_str (z : Str) : (D.str z).eqv (.str z) = true := by
  show (z == z) = true
  simp
theorem zip_same {α : Type} {f : α → α → D} : ∀ (xs : List α), List.zipWith f xs xs = xs.map fun x => f x x
  | [] => rfl
  | x :: xs => by simp [zip_same xs]
theorem zipD_same (xs : List D) : zipD xs xs = xs.map fun x => .tup [x, x] := zip_same xs
theorem lcW_same {vs : List Nat} {g : TGp} {te : TEp} {Q : List D → Ro → Prop} {ρ : Ro} {xs : List D} (hs : ∀ x ∈ xs, ElemOk vs g te ρ (.tup [x, x]) (.bl true)) (hl : xs.length ≤ 1000) (hQ : Q (xs.map fun _ => .bl true) ρ) : lcW vs g pYes te Q (zipD xs xs) [] ρ := by
  rw [zipD_same]
  refine lcW_map (f := fun _ => .bl true) _ [] (fun d hd => ?_) (by simpa using hl) ?_
  · obtain ⟨x, hx, rfl⟩ := List.mem_map.mp hd
    exact hs x hx
  · rw [List.nil_append, List.map_map]
    exact hQ
theorem all_true {α : Type} (xs : List α) : ((xs.map fun _ => true).all id) = true := by
  induction xs with
  | nil => rfl
  | cons x xs ih => rw [List.map_cons, List.all_cons, ih]; rfl
theorem map_true {α : Type} (xs : List α) : (xs.map fun _ => D.bl true) = (xs.map fun _ => true).map D.bl := by rw [List.map_map]; rfl
theorem rd_same (n : Nat) : ∀ ds C, ds.length = 2 → gS (n + 1) ds C → T__law_same (gS n) { nx := fun _ => C (.val .non), rt := fun c _ => C c } (startA N__law_same ds) := by
  rintro ds C - ⟨d, rfl, ok, hC⟩
  cases d with
  | non =>
    have h : D.non.sh := by unfold D.sh toPy; rfl
    exact ⟨h, h, sh_bl _, sh_bl _, sh_bl _, sh_bl _, hC⟩
  | bl b =>
    refine ⟨sh_bl _, sh_bl _, ?_⟩
    exact ifT (by rw [eqv_bl]; simp) ⟨sh_bl _, sh_bl _, sh_bl _, sh_bl _, hC⟩
  | int i =>
    refine ⟨sh_int _, sh_int _, ?_⟩
    show C (.val (.bl ((D.int i).eqv (.int i))))
    rw [show (D.int i).eqv (.int i) = true by rw [eqv_int]; simp]
    exact hC
  | str z =>
    have hz : (D.str z).sh := by cases n <;> exact ok
    refine ⟨hz, hz, ?_⟩
    exact ifT (eqv_str z) ⟨sh_bl _, sh_bl _, sh_bl _, sh_bl _, hC⟩
  | scr ns => cases n <;> exact ok.elim
  | adr a => cases n <;> exact ok.elim
  | exc _ _ => cases n <;> exact ok.elim
  | lst xs =>
    cases n with
    | zero => exact ok.elim
    | succ n =>
      obtain ⟨hl, hx⟩ := ok
      refine ⟨sh_bl _, sh_bl _, sh_bl _, sh_bl _, sh_int _, sh_int _, ifT (by rw [eqv_int]; simp) ?_⟩
      refine lcW_same (fun x hx' K hK => ⟨rfl, rfl, rfl, x, rfl, hx x hx', hK _ rfl⟩) hl ⟨_, map_true xs, ?_⟩
      rw [all_true]; exact hC
  | tup xs =>
    cases n with
    | zero => exact ok.elim
    | succ n =>
      obtain ⟨hl, hx⟩ := ok
      refine ⟨sh_bl _, sh_bl _, sh_bl _, sh_bl _, sh_int _, sh_int _, ifT (by rw [eqv_int]; simp) ?_⟩
      refine lcW_same (fun x hx' K hK => ⟨rfl, rfl, rfl, x, rfl, hx x hx', hK _ rfl⟩) hl ⟨_, map_true xs, ?_⟩
      rw [all_true]; exact hC
theorem okN_intsL (n : Nat) {ns : List Int} (h : ns.length ≤ 1000) : okN (n + 1) (.lst (dI ns)) := ⟨by rw [ints_len]; exact h, fun x hx => by
  obtain ⟨i, _, rfl⟩ := List.mem_map.mp hx
  cases n <;> exact trivial⟩
theorem atI_ints' {ns : List Int} {j : Nat} (h : j < ns.length) : atI (dI ns) (j : Int) = some (.int (ns.getD j 0)) := by
  refine atI_nat ?_
  rw [List.getElem?_map, List.getElem?_eq_getElem h, List.getD_eq_getElem?_getD, List.getElem?_eq_getElem h]; rfl
def g__law_blown : FA := fun ds C => ∃ d ns cut s, ds = [d, windD cut s] ∧ Sq d ns ∧ ns ≠ [] ∧ ns.length ≤ 1000 ∧ 0 ≤ s ∧ C (.val (.tup (dI (blownL cut s ns))))
theorem rangeD_map (n : Nat) : rangeD 0 n = dI ((List.range n).map fun (i : Nat) => (i : Int)) := by
  unfold rangeD dI
  rw [List.map_map]
  apply List.map_congr_left
  intro i _
  show D.int (0 + (i : Int)) = D.int (i : Int)
  rw [Int.zero_add]
theorem mem_rng {n : Nat} {x : Int} (h : x ∈ (List.range n).map fun (i : Nat) => (i : Int)) : ∃ j : Nat, j < n ∧ x = j := by
  obtain ⟨j, hj, e⟩ := List.mem_map.mp h
  exact ⟨j, List.mem_range.mp hj, e.symm⟩
theorem minOf_cons {l : List Int} (h : l ≠ []) : ∃ n r, l = n :: r ∧ minOf l = r.foldl min n := by
  cases l with
  | nil => exact absurd rfl h
  | cons n r => exact ⟨n, r, rfl, rfl⟩
theorem maxOf_cons {l : List Int} (h : l ≠ []) : ∃ n r, l = n :: r ∧ maxOf l = r.foldl max n := by
  cases l with
  | nil => exact absurd rfl h
  | cons n r => exact ⟨n, r, rfl, rfl⟩
theorem reachF_ne {s i : Int} {l : List Int} (h : l ≠ []) : reachF s l i ≠ [] := by
  cases l with
  | nil => exact absurd rfl h
  | cons x r => simp [reachF]
theorem blown_turn {d : D} {w1 : Option Cell} {z : Str} {s i : Int} {b : Addr} {acc : List Int} {ns : List Int} (hd : Sq d ns) (hne : ns ≠ []) (hl : ns.length ≤ 1000) (hi0 : 0 ≤ i) (hi : i ≤ 1000) (ha : acc.length < 1000) {cut : Bool} (hz : z = wordS cut) {P : PEnds}
    (hP : P.nx [some (.val d), w1, some (.val (.str z)), some (.val (.int s)), some (.own b (dI (acc ++ [if cut = true then minOf (reach s ns i) else maxOf (reachF s ns i)]))), some (.val (.int i)), none]) :
    (pIfS (pTest (pOp fEq (pVar 2) (pC (.str "cut"))))
    (pAppend 4 (pCB (fBest min) (pCons (pLc (jRng1 (pCons (pLenO 0) pNil)) (hName 6) pYes (pOp fAdd (pIxO 0 (pVar 6)) (pOp fMulI (pVar 3) (pCB fAbs (pCons (pOp fSub (pVar 5) (pVar 6)) pNil)))) [6]) pNil)))
    (pAppend 4 (pCB (fBest max) (pCons (pLc (jRng1 (pCons (pLenO 0) pNil)) (hName 6) pYes (pOp fSub (pIxO 0 (pVar 6)) (pOp fMulI (pVar 3) (pCB fAbs (pCons (pOp fSub (pVar 5) (pVar 6)) pNil)))) [6]) pNil)))) P [some (.val d), w1, some (.val (.str z)), some (.val (.int s)), some (.own b (dI acc)), some (.val (.int i)), none] := by
  have hap : (dI acc).length < sizeLine := small1000 (by rw [ints_len]; omega)
  have e2 : ∀ x : Int, dI (acc ++ [x]) = dI acc ++ [.int x] := fun x => by simp
  have rngl : ((List.range ns.length).map fun (i : Nat) => (i : Int)).length ≤ 1000 := by simpa using hl
  cases cut with
  | true =>
    subst hz
    refine ⟨sh_cut, sh_cut, ifT (by decide +kernel) ?_⟩
    obtain ⟨n0, r0, e0, e1⟩ := minOf_cons (reach_ne (s := s) (i := i) hne)
    have key : lcW [6] (hName 6) pYes (pOp fAdd (pIxO 0 (pVar 6)) (pOp fMulI (pVar 3) (pCB fAbs (pCons (pOp fSub (pVar 5) (pVar 6)) pNil)))) (fun accL ρ2 => ∃ n r, accL = (n :: r).map D.int ∧ ∃ xs1, ρ2[4]? = some (some (.own b xs1)) ∧ xs1.length < sizeLine ∧ P.nx (ρ2.set 4 (some (.own b (xs1 ++ [.int (r.foldl min n)]))))) (rangeD 0 ns.length) [] [some (.val d), w1, some (.val (.str "cut")), some (.val (.int s)), some (.own b (dI acc)), some (.val (.int i)), none] := by
      rw [rangeD_map]
      refine lcW_ints (h := fun j => .int (ns.getD j.toNat 0 + s * aI (i - j))) (fun x hx K hK => ?_) rngl ⟨n0, r0, ?_, dI acc, rfl, hap, ?_⟩
      · obtain ⟨j, hj, rfl⟩ := mem_rng hx
        have b1 : (-(2 ^ 64) : Int) < iabs (i - j) := by unfold iabs; split <;> omega
        have b2 : iabs (i - j) < (2 ^ 64 : Int) := by unfold iabs; split <;> omega
        rcases hd with rfl | rfl
        · exact ⟨_, atI_ints' hj, .inr ⟨b1, b2⟩, hK _ rfl⟩
        · exact ⟨_, atI_ints' hj, .inr ⟨b1, b2⟩, hK _ rfl⟩
      · rw [← e0, List.map_map]; unfold reach; rw [List.map_map]; rfl
      · rw [← e1, ← e2]; exact hP
    have r1 : (-(2 ^ 62) : Int) ≤ ((dI ns).length : Nat) := by rw [ints_len]; omega
    have r2 : (((dI ns).length : Nat) : Int) < 2 ^ 62 := by rw [ints_len]; omega
    have r3 : ((dI ns).length : Int).toNat = ns.length := by rw [ints_len]; omega
    rcases hd with rfl | rfl
    · exact ⟨r1, r2, by rw [r3]; exact key⟩
    · exact ⟨r1, r2, by rw [r3]; exact key⟩
  | false =>
    subst hz
    refine ⟨sh_fill, sh_cut, ifF (by decide +kernel) ?_⟩
    obtain ⟨n0, r0, e0, e1⟩ := maxOf_cons (reachF_ne (s := s) (i := i) hne)
    have key : lcW [6] (hName 6) pYes (pOp fSub (pIxO 0 (pVar 6)) (pOp fMulI (pVar 3) (pCB fAbs (pCons (pOp fSub (pVar 5) (pVar 6)) pNil)))) (fun accL ρ2 => ∃ n r, accL = (n :: r).map D.int ∧ ∃ xs1, ρ2[4]? = some (some (.own b xs1)) ∧ xs1.length < sizeLine ∧ P.nx (ρ2.set 4 (some (.own b (xs1 ++ [.int (r.foldl max n)]))))) (rangeD 0 ns.length) [] [some (.val d), w1, some (.val (.str "fill")), some (.val (.int s)), some (.own b (dI acc)), some (.val (.int i)), none] := by
      rw [rangeD_map]
      refine lcW_ints (h := fun j => .int (ns.getD j.toNat 0 - s * aI (i - j))) (fun x hx K hK => ?_) rngl ⟨n0, r0, ?_, dI acc, rfl, hap, ?_⟩
      · obtain ⟨j, hj, rfl⟩ := mem_rng hx
        have b1 : (-(2 ^ 64) : Int) < iabs (i - j) := by unfold iabs; split <;> omega
        have b2 : iabs (i - j) < (2 ^ 64 : Int) := by unfold iabs; split <;> omega
        rcases hd with rfl | rfl
        · exact ⟨_, atI_ints' hj, .inr ⟨b1, b2⟩, hK _ rfl⟩
        · exact ⟨_, atI_ints' hj, .inr ⟨b1, b2⟩, hK _ rfl⟩
      · rw [← e0, List.map_map]; unfold reachF; rw [List.map_map]; rfl
      · rw [← e1, ← e2]; exact hP
    have r1 : (-(2 ^ 62) : Int) ≤ ((dI ns).length : Nat) := by rw [ints_len]; omega
    have r2 : (((dI ns).length : Nat) : Int) < 2 ^ 62 := by rw [ints_len]; omega
    have r3 : ((dI ns).length : Int).toNat = ns.length := by rw [ints_len]; omega
    rcases hd with rfl | rfl
    · exact ⟨r1, r2, by rw [r3]; exact key⟩
    · exact ⟨r1, r2, by rw [r3]; exact key⟩
theorem rd__law_blown : ∀ ds C, ds.length = 2 → g__law_blown ds C → T__law_blown { nx := fun _ => C (.val .non), rt := fun c _ => C c } (startA N__law_blown ds) := by
  rintro ds C - ⟨d, ns, cut, s, rfl, hd, hne, hl, h0, hC⟩
  have fin : ∀ (b : Addr), forW (hName 5) (pIfS (pTest (pOp fEq (pVar 2) (pC (.str "cut"))))
    (pAppend 4 (pCB (fBest min) (pCons (pLc (jRng1 (pCons (pLenO 0) pNil)) (hName 6) pYes (pOp fAdd (pIxO 0 (pVar 6)) (pOp fMulI (pVar 3) (pCB fAbs (pCons (pOp fSub (pVar 5) (pVar 6)) pNil)))) [6]) pNil)))
    (pAppend 4 (pCB (fBest max) (pCons (pLc (jRng1 (pCons (pLenO 0) pNil)) (hName 6) pYes (pOp fSub (pIxO 0 (pVar 6)) (pOp fMulI (pVar 3) (pCB fAbs (pCons (pOp fSub (pVar 5) (pVar 6)) pNil)))) [6]) pNil))))
      { nx := fun ρ => (pRet (pVal (pCB fTup (pCons (pVar 4) pNil)))) { nx := fun _ => C (.val .non), rt := fun c _ => C c } ρ, rt := fun c _ => C c } (rangeD 0 ns.length) [some (.val d), some (.val (windD cut s)), some (.val (.str (wordS cut))), some (.val (.int s)), some (.own b []), none, none] := by
    intro b
    rw [rangeD_map]
    refine for_inv (fun ds ρ => ∃ (k : Nat) (w : Option Cell), k ≤ ns.length ∧ ds = dI (((List.range ns.length).drop k).map fun (i : Nat) => (i : Int)) ∧ ρ = [some (.val d), some (.val (windD cut s)), some (.val (.str (wordS cut))), some (.val (.int s)), some (.own b (dI ((blownL cut s ns).take k))), w, none]) (fun x rst ρ K hK hI => ?_) (fun ρ hI => ?_) _ _ ⟨0, none, by omega, rfl, rfl⟩
    · obtain ⟨k, w, hk, e1, rfl⟩ := hI
      have hk' : k < ns.length := by
        rcases Nat.lt_or_ge k ns.length with q | q
        · exact q
        · rw [List.drop_eq_nil_of_le (by simpa using q)] at e1; cases e1
      rw [List.drop_eq_getElem_cons (by simpa using hk'), List.getElem_range] at e1
      cases e1
      have hb : blownL cut s ns = if cut = true then cutAll s ns else fillAll s ns := by
        cases cut with
        | true => exact cutTo_all h0 ns
        | false => exact fillTo_all h0 ns
      have hbl : (blownL cut s ns).length = ns.length := by
        rw [hb]; cases cut with
        | true => exact cutAll_len s ns
        | false => exact fillAll_len s ns
      refine blown_turn (i := (k : Int)) (s := s) (acc := (blownL cut s ns).take k) hd hne hl (by omega) (by omega) (by rw [List.length_take]; omega) rfl ?_
      refine hK _ ⟨k + 1, some (.val (.int k)), by omega, rfl, ?_⟩
      have e : (blownL cut s ns).take (k + 1) = (blownL cut s ns).take k ++ [if cut = true then minOf (reach s ns k) else maxOf (reachF s ns k)] := by
        rw [List.take_succ, hb]
        congr 1
        cases cut with
        | true => show ((cutAll s ns)[k]?).toList = _; unfold cutAll; rw [List.getElem?_map, List.getElem?_range hk']; rfl
        | false => show ((fillAll s ns)[k]?).toList = _; unfold fillAll; rw [List.getElem?_map, List.getElem?_range hk']; rfl
      rw [e]
    · obtain ⟨k, w, hk, e1, rfl⟩ := hI
      have hk' : ns.length ≤ k := by
        rcases Nat.lt_or_ge k ns.length with q | q
        · rw [List.drop_eq_getElem_cons (by simpa using q)] at e1; cases e1
        · exact q
      have hbl : (blownL cut s ns).length = ns.length := by
        cases cut with
        | true => exact cutTo_len s ns
        | false => exact fillTo_len s ns
      rw [List.take_of_length_le (by omega)]
      exact hC
  have hz : (0 : Nat) ≤ sizeLine := Nat.zero_le _
  have r1 : (-(2 ^ 62) : Int) ≤ (ns.length : Int) := by omega
  have r2 : (ns.length : Int) < 2 ^ 62 := by omega
  rcases hd with rfl | rfl
  · refine ⟨rfl, rfl, hz, fun b => ⟨?_, ?_, ?_⟩⟩
    · show (-(2 ^ 62) : Int) ≤ ((dI ns).length : Nat); rw [ints_len]; exact r1
    · show (((dI ns).length : Nat) : Int) < 2 ^ 62; rw [ints_len]; exact r2
    · rw [show ((dI ns).length : Int).toNat = ns.length by rw [ints_len]; omega]; exact fin b
  · refine ⟨rfl, rfl, hz, fun b => ⟨?_, ?_, ?_⟩⟩
    · show (-(2 ^ 62) : Int) ≤ ((dI ns).length : Nat); rw [ints_len]; exact r1
    · show (((dI ns).length : Nat) : Int) < 2 ^ 62; rw [ints_len]; exact r2
    · rw [show ((dI ns).length : Int).toNat = ns.length by rw [ints_len]; omega]; exact fin b
end Pl
namespace Pl
open PySem PySem.Spec PyProof.Rows L2
abbrev Wd := Bool × Int
def windsD (ws : List Wd) : List D := ws.map fun w => windD w.1 w.2
def tD (l : List Int) : D := .tup (dI l)
def blW (l : List Int) (w : Wd) : List Int := blownL w.1 w.2 l
def daysL (l : List Int) : List Wd → List (List Int)
  | [] => [l]
  | w :: ws => l :: daysL (blW l w) ws
def Am (d : D) (ws : List Wd) : Prop := d = .lst (windsD ws) ∨ d = .tup (windsD ws)
theorem blW_len (l : List Int) (w : Wd) : (blW l w).length = l.length := by
  obtain ⟨c, s⟩ := w
  cases c with
  | true => exact cutTo_len s l
  | false => exact fillTo_len s l
theorem blW_ne {l : List Int} (h : l ≠ []) (w : Wd) : blW l w ≠ [] := ne_len (blW_len l w) h
theorem daysL_len : ∀ (ws : List Wd) (l : List Int), (daysL l ws).length = ws.length + 1
  | [], _ => rfl
  | w :: ws, l => by simp [daysL, daysL_len ws]
theorem windsD_len (ws : List Wd) : (windsD ws).length = ws.length := by simp [windsD]
def g_days : FA := fun ds C => ∃ d ns a ws, ds = [d, a] ∧ Sq d ns ∧ Am a ws ∧ ns ≠ [] ∧ ns.length ≤ 1000 ∧ ws.length ≤ 900 ∧ ∀ p, C (.own p ((daysL ns ws).map tD))
theorem rd_days : ∀ ds C, ds.length = 2 → g_days ds C → T_days g_blown { nx := fun _ => C (.val .non), rt := fun c _ => C c } (startA N_days ds) := by
  rintro ds C - ⟨d, ns, am, ws, rfl, hd, ha, hne, hl, hw, hC⟩
  have key : ∀ (b : Addr), forW (hName 3) (pAppend 2 (pFrz (pCallA 2 g_blown (pCons (pIxO 2 (pUn fNeg (pC (.int 1)))) (pCons (pVar 3) pNil))))) { nx := fun ρ => pRet (pMove 2) { nx := fun _ => C (.val .non), rt := fun c _ => C c } ρ, rt := fun c _ => C c } (windsD ws) [some (.val d), some (.val am), some (.own b [tD ns]), none] := by
    intro b
    refine for_inv (fun ds ρ => ∃ (done : List (List Int)) (cur : List Int) (rest : List Wd) (w : Option Cell), ds = windsD rest ∧ ρ = [some (.val d), some (.val am), some (.own b ((done ++ [cur]).map tD)), w] ∧ daysL ns ws = done ++ daysL cur rest ∧ cur ≠ [] ∧ cur.length = ns.length ∧ done.length + rest.length = ws.length) (fun x rst ρ K hK hI => ?_) (fun ρ hI => ?_) _ _ ⟨[], ns, ws, none, rfl, rfl, rfl, hne, rfl, by simp⟩
    · obtain ⟨done, cur, rest, w, e1, rfl, e3, hc, hcl, hlen⟩ := hI
      cases rest with
      | nil => cases e1
      | cons v rest =>
        cases e1
        have hlen' : done.length + (rest.length + 1) = ws.length := hlen
        have em : (done ++ [cur]).map tD = done.map tD ++ [tD cur] := by simp
        refine ⟨(done ++ [cur]).map tD, -1, tD cur, rfl, rfl, ?_, rfl, _, cur, v.1, v.2, rfl, .inl rfl, hc, by omega, (done ++ [cur]).map tD, rfl, small1000 (by simp; omega), hK _ ⟨done ++ [cur], blW cur v, rest, some (.val (windD v.1 v.2)), rfl, ?_, ?_, blW_ne hc v, by rw [blW_len]; exact hcl, by simp; omega⟩⟩
        · rw [em]; exact atI_last _ _
        · rw [show (done ++ [cur] ++ [blW cur v]).map tD = (done ++ [cur]).map tD ++ [tD (blW cur v)] by simp]; rfl
        · rw [e3]; simp [daysL]
    · obtain ⟨done, cur, rest, w, e1, rfl, e3, hc, hcl, hlen⟩ := hI
      cases rest with
      | cons v rest => cases e1
      | nil =>
        have : daysL ns ws = done ++ [cur] := e3
        show C (.own b ((done ++ [cur]).map tD))
        rw [← this]; exact hC b
  have hz : (1 : Nat) ≤ sizeLine := by decide
  rcases hd with rfl | rfl <;> rcases ha with rfl | rfl <;> exact ⟨hz, fun b => key b⟩
def g__law_slope : FB := fun xs ds C => ∃ n, n ≤ 100000000000 ∧ Bx n xs ∧ ds = [] ∧ ∀ s zs, 0 ≤ s → s < 1000000000 → Bx (n + 4) zs → C (.val (.int s)) zs
theorem rd__law_slope : ∀ a xs ds C, ds.length + 1 = 1 → g__law_slope xs ds C → T__law_slope (g_take 100000000000000) { nx := fun ρ => ∃ ys, ρ[0]? = some (some (.own a ys)) ∧ C (.val .non) ys, rt := fun c ρ => ∃ ys, ρ[0]? = some (some (.own a ys)) ∧ C c ys } (startB N__law_slope a xs ds) := by
  rintro a xs ds C - ⟨n, hn, hB, rfl, hC⟩
  refine ⟨by show (4 : Nat) ≤ sizeLine; decide, xs, rfl, rfl, n, 4, by omega, hB, rfl, by decide, by decide, fun r ys q1 q2 q3 => ?_⟩
  obtain ⟨v, hv⟩ := atI_below (xs := [D.int 4, .int 9, .int 40, .int 1000000000]) q1 q2
  refine ⟨v, hv, ?_⟩
  obtain ⟨wide, rfl, hw0, hw⟩ : ∃ wide, v = .int wide ∧ 0 < wide ∧ wide ≤ 1000000000 := by
    have := mem_of_atI hv
    simp at this
    rcases this with e | e | e | e <;> subst e <;> exact ⟨_, rfl, by decide, by decide⟩
  exact ⟨ys, rfl, rfl, n + 2, wide, by omega, q3, rfl, hw0, by omega, fun s zs a1 a2 a3 => ⟨zs, rfl, hC s zs a1 (by omega) a3⟩⟩
end Pl
namespace Pl
open PySem PySem.Spec PyProof.Rows L2
abbrev vI (i : Int) : Option Cell := some (.val (.int i))
abbrev vT (l : List Int) : Option Cell := some (.val (.tup (dI l)))
theorem okN_two {m : Nat} {d e : D} (h1 : okN m d) (h2 : okN m e) : okN (m + 1) (.lst [d, e]) := ⟨by show (2 : Nat) ≤ 1000; decide, fun x hx => by
  rcases List.mem_cons.mp hx with q | q
  · rw [q]; exact h1
  · rw [List.mem_singleton.mp q]; exact h2⟩
theorem map_ne {l : List Int} {f : Int → Int} (h : l ≠ []) : l.map f ≠ [] := by simpa using h
end Pl
namespace Pl
open PySem PySem.Spec PyProof.Rows L2
theorem lcW_mapS {α : Type} {vs : List Nat} {g : TGp} {te : TEp} {Q : List D → Ro → Prop} {d f : α → D} {ρ : Ro} : ∀ (xs : List α) (acc : List D), (∀ x ∈ xs, ElemOk vs g te ρ (d x) (f x)) → acc.length + xs.length ≤ sizeLine → Q (acc ++ xs.map f) ρ → lcW vs g pYes te Q (xs.map d) acc ρ
  | [], acc, _, _, hQ => by
    have hQ : Q (acc ++ []) ρ := hQ
    rw [List.append_nil] at hQ
    exact hQ
  | x :: xs, acc, h, hl, hQ => by
    have hl' : acc.length + (xs.length + 1) ≤ sizeLine := hl
    refine h x (by simp) _ fun ρ4 e => ⟨by omega, ?_⟩
    rw [e]
    refine lcW_mapS xs _ (fun y hy => h y (by simp [hy])) (by rw [List.length_append]; show acc.length + 1 + xs.length ≤ sizeLine; omega) ?_
    rw [List.append_assoc]
    exact hQ
end Pl
namespace Pl
open PySem PySem.Spec PyProof.Rows L2
section
variable {α β : Type} {vs : List Nat} {g : TGp} {tt : TTp} {te : TEp} {tb : TSp} {P : PEnds} {Q : List D → Ro → Prop} {ρ : Ro}
theorem lc_mp {ds : List D} (xs : List α) (d f : α → D) (e : ds = xs.map d) (h : ∀ x ∈ xs, ElemOk vs g te ρ (d x) (f x)) (hl : xs.length ≤ 1000) (hQ : Q (xs.map f) ρ) : lcW vs g pYes te Q ds [] ρ := by
  subst e
  exact lcW_mapS xs [] h (by rw [List.length_nil, Nat.zero_add]; exact sl1000 hl) hQ
theorem rangeD_nat (n : Nat) : rangeD 0 n = (List.range n).map fun (j : Nat) => D.int (j : Int) := by
  unfold rangeD
  apply List.map_congr_left
  intro j _
  rw [Int.zero_add]
theorem lc_rg {m : Nat} (n : Nat) (f : Nat → D) (e : m = n) (h : ∀ j, j < n → ElemOk vs g te ρ (.int (j : Int)) (f j)) (hl : n ≤ 1000) (hQ : Q ((List.range n).map f) ρ) : lcW vs g pYes te Q (rangeD 0 m) [] ρ :=
  lc_mp (List.range n) (fun (j : Nat) => .int (j : Int)) f (by rw [e, rangeD_nat]) (fun j hj => h j (List.mem_range.mp hj)) (by simpa using hl) hQ
theorem forW_mp : ∀ (xs : List α) (d : α → D) (ρ : Ro) (I : List α → Ro → Prop), I xs ρ → (∀ (x : α) (r : List α) (ρ : Ro) (K : Ro → Prop), I (x :: r) ρ → (∀ ρ', I r ρ' → K ρ') → g (d x) ρ fun ρ1 => tb { P with nx := K, ct := K, bk := P.nx } ρ1) → (∀ ρ, I [] ρ → P.nx ρ) → forW g tb P (xs.map d) ρ
  | [], d, ρ, I, h, _, he => he ρ h
  | x :: xs, d, ρ, I, h, hs, he => hs x xs ρ _ h fun ρ' h' => forW_mp xs d ρ' I h' hs he
theorem fr_mp {ds : List D} (xs : List α) (d : α → D) (I : List α → Ro → Prop) (e : ds = xs.map d) (h0 : I xs ρ) (hs : ∀ (x : α) (r : List α) (ρ : Ro) (K : Ro → Prop), I (x :: r) ρ → (∀ ρ', I r ρ' → K ρ') → g (d x) ρ fun ρ1 => tb { P with nx := K, ct := K, bk := P.nx } ρ1) (he : ∀ ρ, I [] ρ → P.nx ρ) : forW g tb P ds ρ := by
  subst e
  exact forW_mp xs d ρ I h0 hs he
theorem forW_rg (I : Nat → Ro → Prop) (n : Nat) (hs : ∀ (j : Nat) (ρ : Ro) (K : Ro → Prop), j < n → I j ρ → (∀ ρ', I (j + 1) ρ' → K ρ') → g (.int (j : Int)) ρ fun ρ1 => tb { P with nx := K, ct := K, bk := P.nx } ρ1) (he : ∀ ρ, I n ρ → P.nx ρ) : ∀ (k j : Nat) (ρ : Ro), k + j = n → I j ρ → forW g tb P ((List.range' j k).map fun (j : Nat) => D.int (j : Int)) ρ
  | 0, j, ρ, e, h => he ρ (by rw [← e, Nat.zero_add]; exact h)
  | k + 1, j, ρ, e, h => by
    rw [List.range'_succ, List.map_cons]
    exact hs j ρ _ (by omega) h fun ρ' h' => forW_rg I n hs he k (j + 1) ρ' (by omega) h'
theorem fr_rg {m : Nat} (n : Nat) (I : Nat → Ro → Prop) (e : m = n) (h0 : I 0 ρ) (hs : ∀ (j : Nat) (ρ : Ro) (K : Ro → Prop), j < n → I j ρ → (∀ ρ', I (j + 1) ρ' → K ρ') → g (.int (j : Int)) ρ fun ρ1 => tb { P with nx := K, ct := K, bk := P.nx } ρ1) (he : ∀ ρ, I n ρ → P.nx ρ) : forW g tb P (rangeD 0 m) ρ := by
  subst e
  rw [rangeD_nat, List.range_eq_range']
  exact forW_rg I m hs he m 0 ρ (by omega) h0
end
end Pl
namespace Pl
open PySem PySem.Spec PyProof.Rows L2
variable [TJ]
def Cell.shut : Option Cell → Option Cell
  | some (.own _ xs) => some (.val (.lst xs))
  | some (.box _) => none
  | x => x
def frzAll (ρ : Ro) : Ro := ρ.map Cell.shut
def isOwn (ρ : Ro) (b : Addr) : Prop := ∃ (i : Nat) (xs : List D), ρ[i]? = some (some (.own b xs))
open Classical in
noncomputable def shutF (ρ : Ro) (F H : Hp) : Hp := fun b => if isOwn ρ b then H b else F b
section
variable {K : PySem.W.Frag} {G F H : Hp} {σ : L2.St} {ρ : Ro}
theorem shut_own {b : Addr} (h : isOwn ρ b) : shutF ρ F H b = H b := by unfold shutF; rw [if_pos h]
theorem shut_not {b : Addr} (h : ¬ isOwn ρ b) : shutF ρ F H b = F b := by unfold shutF; rw [if_neg h]
theorem frz_get {i : Nat} {c : Cell} (h : (frzAll ρ)[i]? = some (some c)) : (∃ d, ρ[i]? = some (some (.val d)) ∧ c = .val d) ∨ ∃ a xs, ρ[i]? = some (some (.own a xs)) ∧ c = .val (.lst xs) := by
  unfold frzAll at h
  rw [List.getElem?_map] at h
  cases q : ρ[i]? with
  | none => rw [q] at h; cases h
  | some o =>
    rw [q] at h
    have h : Cell.shut o = some c := Option.some.inj h
    cases o with
    | none => cases h
    | some c' =>
      cases c' with
      | val d => cases h; exact .inl ⟨d, rfl, rfl⟩
      | own a xs => cases h; exact .inr ⟨a, xs, rfl, rfl⟩
      | box s => cases h
theorem Sim.shut (S : Sim K G F H σ ρ) : Up G F (shutF ρ F H) ∧ Sim K G (shutF ρ F H) H σ (frzAll ρ) := by
  have fresh : ∀ b, isOwn ρ b → F b = none ∧ G b = none := fun b ⟨i, xs, e⟩ => ⟨(S.own i b xs e).2.1, (S.own i b xs e).2.2.1⟩
  have sm : Same F (shutF ρ F H) := fun b o e => by
    rw [shut_not fun h => by rw [(fresh b h).1] at e; cases e]; exact e
  refine ⟨⟨sm, fun b o e => ?_⟩, fun b o e => ?_, S.hG.froz fun b o e => ?_, by rw [S.len]; unfold frzAll; simp, fun i d e => ?_, fun i a xs e => ?_, fun i j a xs ys e1 e2 => ?_, .nil fun i s e => by rcases frz_get e with ⟨d', q, z⟩ | ⟨a', xs', q, z⟩ <;> cases z⟩
  · by_cases h : isOwn ρ b
    · exact .inr (fresh b h).2
    · rw [shut_not h] at e; exact .inl e
  · by_cases h : isOwn ρ b
    · rw [shut_own h] at e; exact e
    · rw [shut_not h] at e; exact S.hF b o e
  · by_cases h : isOwn ρ b
    · obtain ⟨i, xs, e'⟩ := h
      obtain ⟨_, _, _, vs, h4, _⟩ := S.own i b xs e'
      exact .inr ⟨vs, h4⟩
    · rw [shut_not h] at e; exact .inl e
  · rcases frz_get e with ⟨d', q, z⟩ | ⟨a, xs, q, z⟩
    · cases z
      obtain ⟨v, h1, h2⟩ := S.val i d q
      exact ⟨v, h1, h2.mono sm⟩
    · cases z
      obtain ⟨h1, h2, h3, vs, h4, h5⟩ := S.own i a xs q
      exact ⟨_, h1, .lst (by rw [shut_own ⟨i, xs, q⟩]; exact h4) (h5.mono sm)⟩
  · rcases frz_get e with ⟨d', q, z⟩ | ⟨a', xs', q, z⟩ <;> cases z
  · rcases frz_get e1 with ⟨d', q, z⟩ | ⟨a', xs', q, z⟩ <;> cases z
open Classical in
noncomputable def shutG (ρ : Ro) (G H : Hp) : Hp := fun b => if InBox ρ b then H b else G b
theorem shutG_in {b : Addr} (h : InBox ρ b) : shutG ρ G H b = H b := by unfold shutG; rw [if_pos h]
theorem shutG_not {b : Addr} (h : ¬ InBox ρ b) : shutG ρ G H b = G b := by unfold shutG; rw [if_neg h]
theorem shutG_same (S : Sim K G F H σ ρ) : Same G (shutG ρ G H) := fun b o e => by
  rw [shutG_not fun h => by rw [(S.bx.free h).2.1] at e; cases e]; exact e
theorem Sim.shutB (S : Sim K G F H σ ρ) : Sim K (shutG ρ G H) (shutF ρ F H) H σ (frzAll ρ) := by
  have S1 := S.shut.2
  refine ⟨S1.hF, ⟨fun b o e => ?_, TJ.frame S1.hG.tj fun b o e => ?_⟩, S1.len, S1.val, fun i a xs e => ?_, S1.ne, .nil fun i s e => by rcases frz_get e with ⟨d', q, z⟩ | ⟨a', xs', q, z⟩ <;> cases z⟩
  · by_cases h : InBox ρ b
    · rw [shutG_in h] at e; exact e
    · rw [shutG_not h] at e; exact S.hG b o e
  · by_cases h : InBox ρ b
    · exact .inr (S.bx.mut h)
    · rw [shutG_not h] at e; exact .inl e
  · rcases frz_get e with ⟨d', q, z⟩ | ⟨a', xs', q, z⟩ <;> cases z
theorem Sim.unshut {F2 H2 : Hp} {ρ2 : Ro} (S : Sim K G F H σ ρ) (u : Up (shutG ρ G H) (shutF ρ F H) F2) (S2 : Sim K (shutG ρ G H) F2 H2 σ ρ2) : Sim K G F H2 σ ρ := by
  refine ⟨(S.shut.1.ex.trans u.ex).trans S2.hF, (S2.hG.less (shutG_same S)).step (.refl _) fun b o e => .inl ((S.shut.1.ex.trans u.ex) b o e), S.len, S.val, fun i a xs e => ?_, S.ne, S.bx.heap (.refl _) fun p m => let ⟨f, g, o, e⟩ := S.bx.free m; ⟨f, g, (S2.hG p o (by rw [shutG_in m]; exact e)).trans e.symm⟩⟩
  obtain ⟨h1, h2, h3, vs, h4, h5⟩ := S.own i a xs e
  refine ⟨h1, h2, h3, vs, S2.hF a _ (u.ex a _ ?_), h5⟩
  rw [shut_own ⟨i, xs, e⟩]; exact h4
end
section
variable {X : Cx} {e : Expr} {te : TE} {Te : TEp}
def pPeek (Te : TEp) : TEp := fun ρ Q => Te (frzAll ρ) fun d _ => match d with
  | .bl b => Q (.bl b) ρ
  | .int i => Q (.int i) ρ
  | .str z => Q (.str z) ρ
  | .non => Q .non ρ
  | _ => False
theorem ppe_peek (he : PPE X e te Te) : PPE X e te (pPeek Te) := ⟨he.pe, fun G F H σ ρ Q R S hT k =>
  he.snd (shutG ρ G H) (shutF ρ F H) H σ (frzAll ρ) _ _ S.shutB hT fun v d F2 H2 ρ2 u2 S2 r2 q2 => by
    have S3 := S.unshut u2 S2
    cases r2 with
    | non => exact k _ _ F H2 ρ (.refl _ _) S3 .non q2
    | bl b => exact k _ _ F H2 ρ (.refl _ _) S3 (.bl b) q2
    | int i => exact k _ _ F H2 ρ (.refl _ _) S3 (.int i) q2
    | str z => exact k _ _ F H2 ρ (.refl _ _) S3 (.str z) q2
    | _ => exact q2.elim⟩
end
theorem CellOk.more {K : PySem.W.Frag} {G F H : Hp} {ρ : Ro} {v : V} {c : Cell} {p : Addr} {o : HO} (h : CellOk K G F H ρ v c) (hp : H p = none) : CellOk K G F (upd H p o) ρ v c := by
  cases c with
  | val d => exact h
  | own q xs =>
    obtain ⟨h1, h2, h3, h4, us, h5, h6⟩ := h
    exact ⟨h1, h2, h3, h4, us, by rw [upd_ne (ne_of_none h5 hp)]; exact h5, h6⟩
  | box s => exact h
end Pl
namespace L2
open PySem PySem.Spec PyProof.Rows
def Hits (X : Cx) (tt : Expr) (cls : Value) : Prop := ∀ (a : Addr) (oe : Obj) (pn : List (Addr × Obj)) (σ : St) (H : Hp) (s : Shared) (Q : Value → Shared → Prop) (E : Value → Shared → Prop), Inv (X.suite a ((a, oe) :: pn)) [] σ H s → PySem.W.Looks (model X.prog X.w) s.heap (typeOf (.ref a)) cls →
  (∀ c h', (∀ b o, s.heap.get? b = some o → h'.get? b = some o) → PySem.W.Looks (model X.prog X.w) h' (excMatches (.ref a) c) true → Q c { s with heap := h' }) → wpAny (model X.prog X.w) (X.A.mark (some (.ref a))) (eval tt X.env) Q E s
def Named (X : Cx) (x : Str) (C : Addr) : Prop := Gl X x ∧ (x == ("__debug__" : Str)) = false ∧ X.mg x = some (.ref C)
section
variable {X : Cx} {cls : Value} {x1 x2 x3 x4 : Str} {C1 C2 C3 C4 : Addr} {p1 p2 p3 p4 tp : Pos} {kk : Nat}
theorem hits1 (n : Named X x1 C1) (h : PySem.W.exmOne X.K cls (.ref C1) = some true) : Hits X (.Name x1 p1) cls := fun a oe pn σ H s Q E I LT k =>
  ld_glob (X := X.suite a ((a, oe) :: pn)) I n.1 n.2.2 (k (.ref C1) s.heap (fun _ _ q => q) (PySem.W.exm_one I.kIn LT h)) n.2.1
end
theorem flying_kept {B h h' : Heap} {l : List Env} {a : Addr} {Z : Obj → Prop} (f : PySem.HandSPX.FlyingZ B l a Z h) (k : ∀ b o, h.get? b = some o → h'.get? b = some o) : PySem.HandSPX.FlyingZ B l a Z h' := by
  obtain ⟨f1, f2, f3, oe, vs, T, oT, ts, he, hz, hd, h1, hn, hne, hT, hdT, h3⟩ := f
  exact ⟨fun b o q => k b o (f1 b o q), f2, f3.of_keeps fun b o q _ => ⟨o, k b o q, rfl⟩, oe, vs, T, oT, ts, k _ _ he, hz, hd, h1, hn, hne, k _ _ hT, hdT, h3⟩
structure AskX (K : PySem.W.Frag) (C : Addr) : Prop where
  ga : PySem.W.findIn K (.ref C) "__getattribute__" = some (some (.builtin "BaseException.__getattribute__"))
  gg : PySem.W.findIn K (.ref C) "__getattr__" = some none
  ca : PySem.W.findIn K (.ref C) "__class__" = some (some (.builtin "object.__class__"))
  hn : PySem.W.specialIn K (.builtin "object.__class__") "__get__" = some (some (.builtin "getset_descriptor.__get__"))
  ht : PySem.W.takesIn K (.builtin "object.__class__") = some true
section
variable {K : PySem.W.Frag} {C : Addr} {nw : String} {tl : List Value}
theorem OwnX.cd (T : OwnX K C nw tl) : ∃ cd, PySem.W.clsIn K C = some cd ∧ cd.mro = .ref C :: tl ∧ cd.hasDict = true := by
  obtain ⟨nm, q, N, bs, sn, sub, ab, col, dd, k0, k1, k2, k3, k5, hC⟩ := T.cls
  exact ⟨{ name := nm, bases := bs, mro := .ref C :: tl, ns := N, qualname := q, hasDict := true, slotNames := sn, subclasses := sub, abstract := ab, collection := col, hasDel := false }, by unfold PySem.W.clsIn; rw [hC] <;> rfl, rfl, rfl⟩
theorem OwnX.mro (T : OwnX K C nw tl) (b : Value) : PySem.W.mroIn K C b = some ((.ref C == b) || tl.contains b) := by
  obtain ⟨cd, h1, h2, _⟩ := T.cd
  unfold PySem.W.mroIn
  rw [h1, Option.bind_some, h2, if_neg (by simp), List.contains_cons]
  cases h : (Value.ref C == b) with
  | true => rw [beq_iff_eq.mp h]; simp
  | false =>
    have : (b == Value.ref C) = false := by
      cases q : (b == Value.ref C) with
      | false => rfl
      | true => rw [← beq_iff_eq.mp q] at h; simp at h
    rw [this]
end
end L2
namespace Pl
open PySem PySem.Spec PyProof.Rows L2
section
variable [TJ]
structure XD where
  c : Str
  y : D
abbrev unl : Str := "Unlike 0"
def XRep (K : PySem.W.Frag) (F : Hp) (cls : Value) (d : Option Addr) (x : XD) : Prop := ∃ C : Addr, cls = .ref C ∧
  ((x.c ≠ unl ∧ PySem.W.nsIn K mainGlobals x.c = some (some (.ref C)) ∧ ∃ (dd : Addr) (v : V), d = some dd ∧ F dd = some (.xd [(xfield x.c, v)]) ∧ Rep K F v x.y) ∨ (x.c = unl ∧ PySem.W.nsIn K mainGlobals "Unlike" = some (some (.ref C)) ∧ d = none))
theorem XRep.mono {K : PySem.W.Frag} {F F' : Hp} {cls : Value} {d : Option Addr} {x : XD} (e : Same F F') (h : XRep K F cls d x) : XRep K F' cls d x := by
  obtain ⟨C, h2, ⟨hc, h1, dd, v, h3, h4, h5⟩ | h3⟩ := h
  · exact ⟨C, h2, .inl ⟨hc, h1, dd, v, h3, e _ _ h4, h5.mono e⟩⟩
  · exact ⟨C, h2, .inr h3⟩
abbrev XP := XD → Ro → Prop
def XRel (K : PySem.W.Frag) (W : WX) (G F : Hp) (xx : XP) : Prop := ∀ F' H' σ' ρ' cls d x, Up G F F' → Sim K G F' H' σ' ρ' → XRep K F' cls d x → xx x ρ' → W cls d σ' H'
theorem XRel.mono {K : PySem.W.Frag} {W : WX} {G F F1 : Hp} {xx : XP} (h : XRel K W G F xx) (u : Up G F F1) : XRel K W G F1 xx := fun F' H' σ' ρ' cls d x v => h F' H' σ' ρ' cls d x (u.trans v)
theorem Sim.grow {K : PySem.W.Frag} {G F H F' H' : Hp} {σ : L2.St} {ρ : Ro} (S : Sim K G F H σ ρ) (u : Up G F F') (hF : Same F' H') (hH : Same H H') (fr : ∀ a o, H a = some o → Mut o → F a = none → F' a = none) (nw : ∀ b o, F' b = some o → F b = some o ∨ H b = none) : Sim K G F' H' σ ρ :=
  ⟨hF, S.hG.up hH nw, S.len, fun i d h => by
    obtain ⟨w, h1, h2⟩ := S.val i d h
    exact ⟨w, h1, h2.mono u.ex⟩, fun i a xs h => by
    obtain ⟨h1, h2, h3, vs, h4, h5⟩ := S.own i a xs h
    exact ⟨h1, fr a _ h4 trivial h2, h3, vs, hH _ _ h4, h5.mono u.ex⟩, S.ne, S.bx.heap u.ex fun p m => let ⟨f, g, _⟩ := S.bx.free m; let ⟨o, e, mo⟩ := S.bx.mut m; ⟨fr p o e mo f, g, (hH _ _ e).trans e.symm⟩⟩
abbrev TXe := Ro → XP → Prop
def SndX (K : PySem.W.Frag) (W : WX) (t : TE) (T : TXe) : Prop := ∀ (G F H : Hp) (σ : L2.St) (ρ : Ro) (xx : XP) (R : VK), Sim K G F H σ ρ → T ρ xx → XRel K W G F xx → t σ H R
def SndXA (K : PySem.W.Frag) (W : WX) (t : TA) (T : TXe) : Prop := ∀ (G F H : Hp) (σ : L2.St) (ρ : Ro) (xx : XP) (R : List V → Hp → Prop), Sim K G F H σ ρ → T ρ xx → XRel K W G F xx → t σ H R
def SndXI (K : PySem.W.Frag) (W : WX) (t : TI) (T : TXe) : Prop := ∀ (G F H : Hp) (σ : L2.St) (ρ : Ro) (xx : XP) (R : It → Hp → Prop), Sim K G F H σ ρ → T ρ xx → XRel K W G F xx → t σ H R
structure PXE (X : Cx) (W : WX) (e : Expr) (t : TE) (T : TXe) : Prop where
  pe : PE X e t
  snd : SndX X.K W t T
structure PXA (X : Cx) (W : WX) (es : List Expr) (t : TA) (T : TXe) : Prop where
  pa : PA X es t
  snd : SndXA X.K W t T
structure PXI (X : Cx) (W : WX) (tg iter : Expr) (t : TI) (T : TXe) : Prop where
  pi : PI X tg iter t
  snd : SndXI X.K W t T
abbrev FX := List D → (XD → Prop) → Prop
def spX (K : PySem.W.Frag) (n : Nat) (g : FX) : Sp := fun vs H _ E => ∃ (F : Hp) (ds : List D) (C : XD → Prop), vs.length = n ∧ Same F H ∧ Reps K F vs ds ∧ g ds C ∧
  ∀ x cls d F' H', Up H F F' → Same F' H' → Same H H' → XRep K F' cls d x → C x → E cls d H'
section
variable {X : Cx} {W : WX} {k : Nat} {f : Addr} {fd : FuncData} {ps : List Str} {x : Str} {p pos : Pos} {e a b c : Expr} {es : List Expr} {t ta' : TA} {T : TAp} {n : Nat} {te ta tb : TE} {Te Ta Tb U : TEp} {Xe Xa Xb : TXe}
def xCall (n : Nat) (g : FX) (T : TAp) : TXe := fun ρ xx => T ρ fun ds ρ1 => ds.length = n ∧ g ds fun x => xx x ρ1
theorem pxe_call {g : FX} (Fn : FnOk X.prog X.w X.K X.mg X.base (L2.CX X.prog X.w) k f fd ps (spX X.K n g)) (tk : Takes X W) (hr : Room k X.A) (hg : Gl X x) (hm : X.mg x = some (.ref f)) (hk : PySem.W.keepIn X.K (.ref f) = true) (hb : Binds X.K fd ps []) (ha : PPA X (e :: es) t T)
    (hdb : (x == ("__debug__" : Str)) = false := by decide) (he : starEach (e :: es) X.env = (false, eval e X.env) :: starEach es X.env := by rfl) (hpl : (backTo pos (starEach es X.env)).any (·.1) = false := by rfl) :
    PXE X W (.Call (.Name x p) (e :: es) [] pos) (tCallSD (spX X.K n g) [] (WE W) t) (xCall n g T) := ⟨pe_callSD Fn hr hg hm hk hb .nil (passAt tk) ha.pa hdb he hpl, fun G F H σ ρ xx R S hT hx =>
  ha.snd G F H σ ρ _ _ S hT fun vs ds F1 H1 ρ1 u1 S1 r1 h1 => by
    show spX X.K n g (vs ++ []) H1 R _
    rw [List.append_nil]
    refine ⟨F1, ds, _, by rw [r1.length]; exact h1.1, S1.hF, r1, h1.2, fun x cls d F' H' u hF hH xr q => ?_⟩
    have u' : Up G F1 F' := u.less S1.hG
    exact hx F' H' σ ρ1 cls d x (u1.trans u') (S1.grow u' hF hH (fun a o ha _ hf => u.isNone hf ha) u.out) xr q⟩
theorem pxa_here (ha : PXE X W e te Xe) (hr : PPA X es t T) (hs : starEach (e :: es) X.env = (false, eval e X.env) :: starEach es X.env := by rfl) : PXA X W (e :: es) (tCons te t) Xe :=
  ⟨pa_cons ha.pe hr.pa hs, fun G F H σ ρ xx R S hT hx => ha.snd G F H σ ρ xx _ S hT hx⟩
theorem pxe_argB {id : String} {r : List V → Hp → VK → Prop} (hc : CallR X (.builtin id) r) (hg : Gl X x) (hm : X.mg x = none) (hv : bootBuiltins x = some (.builtin id)) (ha : PXA X W (e :: es) t Xa)
    (hn : x ≠ "__name__" := by decide) (hdb : (x == ("__debug__" : Str)) = false := by decide)
    (he : starEach (e :: es) X.env = (false, eval e X.env) :: starEach es X.env := by rfl) (hpl : (backTo pos (starEach es X.env)).any (·.1) = false := by rfl) : PXE X W (.Call (.Name x p) (e :: es) [] pos) (tCB r t) Xa := ⟨pe_callB hc hg hm hv ha.pa hn hdb he hpl, fun G F H σ ρ xx R S hT hx => ha.snd G F H σ ρ xx _ S hT hx⟩
theorem pxe_cmp {op : CmpOp} {r : R2} {g : F2} (hc : Cmp X op r g) (ha : PXE X W a ta Xa) (hb : PPE X b tb Tb) (hm : behindInMarks op b = false) : PXE X W (.Compare a [op] [b] pos) (tOp r ta tb) Xa := ⟨pe_cmpR hc.op ha.pe hb.pe hm, fun G F H σ ρ xx R S hT hx => ha.snd G F H σ ρ xx _ S hT hx⟩
theorem pxi_seq {tg l : Expr} {tl : TE} (hl : PXE X W l tl Xe) : PXI X W tg l (iAny X.K tl) Xe := ⟨pi_any hl.pe, fun G F H σ ρ xx R S hT hx => hl.snd G F H σ ρ xx _ S hT hx⟩
end
section
variable {X : Cx} {W : WX} {elt tg iter : Expr} {ifs : List Expr} {scope : Scope} {own : List (Str × Nat)} {pos : Pos} {wi : TI} {Xi : TXe} {Gp : TGp} {is : List Nat} {Tt : TTp} {Te : TEp}
theorem pxe_lc (hc : X.calm = true) (hN : X.N.Nodup) (hi : PXI X W tg iter wi Xi) (ok : BlkOk X.N X.env.scope scope own)
    (hg : ∀ (s : Shared) (H : Hp) (C : Addr) (cl : List (Str × Addr)) (fp : List Addr), PTg (X.blk s H scope (compEnvC scope cl C X.env) fp) tg (liftG X.K Gp is) Gp is) (ht : ∀ (s : Shared) (H : Hp) (C : Addr) (cl : List (Str × Addr)) (fp : List Addr), PPTs (X.blk s H scope (compEnvC scope cl C X.env) fp) ifs (liftT X.K Tt) Tt)
    (he : ∀ (s : Shared) (H : Hp) (C : Addr) (cl : List (Str × Addr)) (fp : List Addr), PPE (X.blk s H scope (compEnvC scope cl C X.env) fp) elt (liftE X.K Te) Te) (hs : ∀ x, foldedSetIterable iter X.env x = pure x := by intro _; rfl) :
    PXE X W (.ListComp elt [⟨tg, iter, ifs, 0⟩] scope pos) (tLc wi (liftG X.K Gp is) (liftT X.K Tt) (liftE X.K Te) (own.map (·.2))) Xi :=
  ⟨pe_lc hc hN hi.pi ok (fun s H C cl fp => (hg s H C cl fp).pg) (fun s H C cl fp => (ht s H C cl fp).pt) (fun s H C cl fp => (he s H C cl fp).pe) hs, fun G F H σ ρ xx R S hT hx => hi.snd G F H σ ρ xx _ S hT hx⟩
end
abbrev TXs := PEnds → XP → Ro → Prop
def SndXS (K : PySem.W.Frag) (W : WX) (t : TS) (T : TXs) : Prop := ∀ (G F H : Hp) (σ : L2.St) (ρ : Ro) (P : PEnds) (D : Ends) (xx : XP), Sim K G F H σ ρ → T P xx ρ → ERel K G F P D → XRel K W G F xx → t D σ H
structure PXS (X : Cx) (W : WX) (st : Stmt) (t : TS) (T : TXs) : Prop where
  ps : PS X st t
  snd : SndXS X.K W t T
structure PXSs (X : Cx) (W : WX) (st : List Stmt) (t : TS) (T : TXs) : Prop where
  ps : PSs X st t
  snd : SndXS X.K W t T
def liftXS (K : PySem.W.Frag) (W : WX) (T : TXs) : TS := fun D σ H => ∃ (G F : Hp) (ρ : Ro) (P : PEnds) (xx : XP), Sim K G F H σ ρ ∧ T P xx ρ ∧ ERel K G F P D ∧ XRel K W G F xx
section
variable {X : Cx} {W : WX} {st : Stmt} {rest : List Stmt} {t u : TS} {T : TSp} {U V' : TXs} {e : Expr} {te : TE} {Te : TEp} {Xe : TXe} {pos : Pos}
theorem PXSs.lift (h : PXSs X W rest t U) : PXSs X W rest (liftXS X.K W U) U :=
  ⟨⟨fun pins s σ H D I ⟨G, F, ρ, P, xx, S, hT, r, hx⟩ => h.ps.run pins s σ H D I (h.snd G F H σ ρ P D xx S hT r hx)⟩, fun G F H σ ρ P D xx S hT r hx => ⟨G, F, ρ, P, xx, S, hT, r, hx⟩⟩
def xOk (T : TSp) : TXs := fun P _ ρ => T P ρ
theorem pxs_ok (h : PPS X st t T) : PXS X W st t (xOk T) := ⟨h.ps, fun G F H σ ρ P D xx S hT r _ => h.snd G F H σ ρ P D S hT r⟩
def xOr (T : TSp) (U : TXs) : TXs := fun P xx ρ => T P ρ ∨ U P xx ρ
theorem pxs_or (h : PPS X st t T) (h2 : PXS X W st u U) : PXS X W st (fun D σ H => t D σ H ∨ u D σ H) (xOr T U) :=
  ⟨⟨fun pins s σ H D I q => q.elim (h.ps.run pins s σ H D I) (h2.ps.run pins s σ H D I)⟩, fun G F H σ ρ P D xx S hT r hx => hT.elim (fun q => .inl (h.snd G F H σ ρ P D S q r)) fun q => .inr (h2.snd G F H σ ρ P D xx S q r hx)⟩
def xNext : TXs := fun P _ ρ => P.nx ρ
def xSeq (U V : TXs) : TXs := fun P xx ρ => U { P with nx := V P xx } xx ρ
theorem pxss_nil : PXSs X W [] tNext xNext := ⟨pss_nil, fun G F H σ ρ P D xx S h r _ => r.nx F H σ ρ (.refl _ _) S h⟩
theorem pxss_one (h : PXS X W st t U) : PXSs X W [st] t U := ⟨pss_one h.ps, h.snd⟩
theorem pxss_cons (h1 : PXS X W st t U) (h2 : PXSs X W rest u V') : PXSs X W (st :: rest) (tSeq t u) (xSeq U V') := ⟨pss_cons h1.ps h2.ps, fun G F H σ ρ P D xx S h r hx =>
  h1.snd G F H σ ρ _ _ xx S h ⟨fun F' H' σ' ρ' u S' q => h2.snd G F' H' σ' ρ' P D xx S' q (r.mono u) (hx.mono u), r.rt, r.bk, r.ct⟩ hx⟩
def xIfS (C : TTp) (U V : TXs) : TXs := fun P xx ρ => C ρ fun b ρ1 => if b = true then U P xx ρ1 else V P xx ρ1
theorem pxs_if {c : Expr} {a b : List Stmt} {tc : TT} {C : TTp} (hc : PPT X c tc C) (ha : PXSs X W a t U) (hb : PXSs X W b u V') : PXS X W (.If c a b pos) (tIfS tc t u) (xIfS C U V') := ⟨ps_if hc.pt ha.ps hb.ps, fun G F H σ ρ P D xx S h r hx =>
  hc.snd G F H σ ρ _ _ S h fun b F' H' ρ' u S' q => by
    cases b with
    | true => exact ite_ti (ha.snd G F' H' σ ρ' P D xx S' (ite_t q) (r.mono u) (hx.mono u))
    | false => exact ite_fi (hb.snd G F' H' σ ρ' P D xx S' (ite_f q) (r.mono u) (hx.mono u))⟩
def xE (Xe : TXe) : TXs := fun _ xx ρ => Xe ρ xx
theorem pxs_expr (he : PXE X W e te Xe) (hs : swapsWith e none pos.line X.env = pure false := by rfl) : PXS X W (.Expr e pos) (tDrop te) (xE Xe) := ⟨ps_expr he.pe hs, fun G F H σ ρ P D xx S h r hx => he.snd G F H σ ρ xx _ S h hx⟩
theorem pxs_ret (he : PXE X W e te Xe) : PXS X W (.Return (some e) pos) (tRet te) (xE Xe) := ⟨ps_ret he.pe, fun G F H σ ρ P D xx S h r hx => he.snd G F H σ ρ xx _ S h hx⟩
end
end
section
variable {P : Program} {w : World} {K : PySem.W.Frag} {mg : Str → Option Value} {base : Heap} {x qual : Str} {st : Stmt} {f : Addr} {fd : FuncData} {N ps : List Str} {k : Nat}
theorem okX {g : FX} {T : TXs} (Fn : Fun K x qual st f fd) (S : FnScope N ps (defScope st))
    (hb : ∀ (cdv : Value) (A : Around) (outer : List Env) (s : Shared) (H : Hp) (E : XK), Room k (A.deeper (envOfC qual (defScope st) s.heap.objs.size f cdv)) → ∃ t, PXSs (cxOf (L2.CX P w) P w K mg base N qual (defScope st) f cdv A outer s H E) (fun cls d _ H => E cls d H) (defBody st) t T)
    (hT : ∀ ds C, ds.length = ps.length → g ds C → T { nx := fun _ => False, rt := fun _ _ => False } (fun x _ => C x) (startA N ds)) : FnOk P w K mg base (L2.CX P w) (k + 1) f fd ps (spX K ps.length g) := by
  refine Fn.okX S (fun vs H Q E h => ?_) (fun cdv A outer s H vs Q E hr h => ?_)
  · obtain ⟨F, ds, C, hl, _⟩ := h
    exact hl
  · obtain ⟨F, ds, C, hl, hF, r, hg, hQ⟩ := h
    obtain ⟨t, ht⟩ := hb cdv A outer s H E hr
    refine ⟨t, ht.ps, ?_⟩
    have S0 : Sim K H F H (L2.start N vs) (startA N ds) := by
      unfold L2.start startA
      rw [r.length]
      exact sim_vals hF (.rfl' F H) r _
    exact ht.snd H F H _ _ _ _ _ S0 (hT ds C (by rw [← r.length]; exact hl) hg) ⟨fun _ _ _ _ _ _ q => q.elim, fun _ _ _ _ _ _ _ _ q => q.elim, fun _ _ _ _ _ _ q => q, fun _ _ _ _ _ _ q => q⟩
      fun F' H' σ' ρ' cls d x u S' xr q => hQ x cls d F' H' u S'.hF S'.hG xr q
end
end Pl
namespace Pl
open PySem PySem.Spec PyProof.Rows L2
section
variable [TJ]
theorem xb_value (c : Str) (h : c ∈ (["Clash", "Against", "Unlike", "Astray", "BadText", "BadRow"] : List Str)) : xb c = .v := if_pos h
def inS (st : Stmt) (j : Nat) : Stmt := match st with
  | .ClassDef _ _ _ body _ _ _ _ _ _ _ => body.getD j (.Pass ⟨0, 0, 0, 0⟩)
  | _ => .Pass ⟨0, 0, 0, 0⟩
abbrev xtl (c : Str) : List Value := (xb c).tl.map Value.type
structure XCl (K : PySem.W.Frag) (mg : Str → Option Value) (c : Str) (C : Addr) : Prop where
  cls : ∃ q N bs sn sub ab col dd k0 k1 k2 k3 k5, K.lookup C = some (excClassObj c q C N bs (xtl c) true sn sub ab col dd k0 k1 k2 k3 k5 (xb c).new)
  sa : PySem.W.findIn K (.ref C) "__setattr__" = some (some (.builtin "object.__setattr__"))
  exC : PySem.W.subIn K (.ref C) (.type "BaseException") = some true
  tyC : PySem.W.typeIn K (.ref C) = some (.type "type")
  kC : PySem.W.keepIn K (.ref C) = true
  ask : AskX K C
  ns : PySem.W.nsIn K mainGlobals c = some (some (.ref C))
  fno : PySem.W.findIn K (.ref C) (xfield c) = some none
  gm : mg c = some (.ref C)
section
variable {K : PySem.W.Frag} {mg : Str → Option Value} {c c2 : Str} {C C2 : Addr}
theorem XCl.own (T : XCl K mg c C) : OwnX K C (xb c).new (xtl c) := by
  obtain ⟨q, N, bs, sn, sub, ab, col, dd, k0, k1, k2, k3, k5, h⟩ := T.cls
  exact ⟨⟨c, q, N, bs, sn, sub, ab, col, dd, k0, k1, k2, k3, k5, h⟩, T.sa, T.exC, T.tyC, T.kC⟩
theorem XCl.same (T : XCl K mg c C) (h : PySem.W.nsIn K mainGlobals c = some (some (.ref C2))) : C2 = C := by
  rw [T.ns] at h
  cases h; rfl
theorem XCl.ne (T : XCl K mg c C) (T2 : XCl K mg c2 C2) (h : c ≠ c2) : C ≠ C2 := fun z => by
  obtain ⟨q, N, bs, sn, sub, ab, col, dd, k0, k1, k2, k3, k5, e⟩ := T.cls
  obtain ⟨q', N', bs', sn', sub', ab', col', dd', j0, j1, j2, j3, j5, e'⟩ := T2.cls
  subst z
  rw [e] at e'
  have z := Option.some.inj e'
  unfold excClassObj at z
  injection z with _ _ z _
  injection z with z
  injection z with z
  exact h z
theorem xtl_obj (c : Str) : (xtl c).contains (.type "object") = true := by
  unfold xtl
  cases xb c <;> decide +kernel
def isaX (c n : Str) : Bool := c == n || (xb c).tl.any fun s => Str.ofString s == n
theorem XCl.kit (T : XCl K mg c C) (T2 : XCl K mg c2 C2) (hb : ∀ b : XB, (b.tl.any fun s => Str.ofString s == c2) = false) : PySem.W.kitOne K (.ref C) (.ref C2) = some (isaX c c2) := by
  have e : isaX c c2 = (c == c2) := by unfold isaX; rw [hb, Bool.or_false]
  rw [e]
  unfold PySem.W.kitOne
  by_cases h : c = c2
  · subst h
    obtain rfl := T.same T2.ns
    rw [if_pos (by simp)]; simp
  · have ne : C ≠ C2 := T.ne T2 h
    have e1 : (Value.ref C == Value.ref C2) = false := by
      cases q : (Value.ref C == Value.ref C2) with
      | false => rfl
      | true => exact absurd (Value.ref.inj (beq_iff_eq.mp q)) ne
    have e2 : (c == c2) = false := by simpa using h
    rw [if_neg (by rw [e1]; decide), e2]
    obtain ⟨cd, h1, _⟩ := T2.own.cd
    show (if ((PySem.W.clsIn K C2).isSome && PySem.W.typeIn K (.ref C2) == some (.type "type")) = true then PySem.W.subIn K (.ref C) (.ref C2) else none) = some false
    rw [h1, T2.tyC, if_pos (by rfl)]
    show PySem.W.mroIn K C (.ref C2) = some false
    rw [T.own.mro, e1, Bool.false_or]
    unfold xtl
    cases xb c <;> rfl
theorem XCl.kitB (T : XCl K mg c C) {n : String} (hc : c ≠ Str.ofString n) (hm : PySem.W.kitMeta n = true) (hb : ∀ b : XB, (b.tl.map Value.type).contains (.type n) = b.tl.any fun s => Str.ofString s == Str.ofString n) : PySem.W.kitOne K (.ref C) (.type n) = some (isaX c (Str.ofString n)) := by
  have e2 : (c == Str.ofString n) = false := by simpa using hc
  have e : isaX c (Str.ofString n) = ((xb c).tl.any fun s => Str.ofString s == Str.ofString n) := by unfold isaX; rw [e2, Bool.false_or]
  rw [e]
  unfold PySem.W.kitOne
  rw [if_neg (by rw [show (Value.ref C == Value.type n) = false from rfl]; decide)]
  show (if PySem.W.kitMeta n = true then PySem.W.subIn K (.ref C) (.type n) else none) = _
  rw [if_pos hm]
  show PySem.W.mroIn K C (.type n) = _
  rw [T.own.mro, ← hb]
  show some (false || _) = _
  rw [Bool.false_or]
theorem XCl.exm (T : XCl K mg c C) (T2 : XCl K mg c2 C2) (hb : ∀ b : XB, (b.tl.any fun s => Str.ofString s == c2) = false) : PySem.W.exmOne K (.ref C) (.ref C2) = some (c == c2) := by
  unfold PySem.W.exmOne
  rw [T2.exC, if_pos (by rfl)]
  obtain ⟨cd, h1, _⟩ := T2.own.cd
  show (if ((PySem.W.clsIn K C2).isSome && PySem.W.typeIn K (.ref C2) == some (.type "type")) = true then PySem.W.subIn K (.ref C) (.ref C2) else none) = _
  rw [h1, T2.tyC, if_pos (by rfl)]
  show PySem.W.mroIn K C (.ref C2) = _
  rw [T.own.mro]
  have z : (xtl c).contains (.ref C2) = false := by unfold xtl; cases xb c <;> rfl
  rw [z, Bool.or_false]
  by_cases h : c = c2
  · subst h
    obtain rfl := T.same T2.ns
    simp
  · have e2 : (c == c2) = false := by simpa using h
    rw [e2]
    cases q : (Value.ref C == Value.ref C2) with
    | false => rfl
    | true => exact absurd (Value.ref.inj (beq_iff_eq.mp q)) (T.ne T2 h)
end
def XCs (K : PySem.W.Frag) (mg : Str → Option Value) (cs : List Str) : Prop := ∀ c ∈ cs, ∃ C, XCl K mg c C
theorem xcs_nil {K : PySem.W.Frag} {mg : Str → Option Value} : XCs K mg [] := fun _ h => nomatch h
theorem xcs_cons {K : PySem.W.Frag} {mg : Str → Option Value} {c : Str} {C : Addr} {cs : List Str} (h : XCl K mg c C) (t : XCs K mg cs) : XCs K mg (c :: cs) := fun x hx => by
  rcases List.mem_cons.mp hx with rfl | hx
  · exact ⟨C, h⟩
  · exact t x hx
section
variable {X : Cx} {c1 c2 c3 c4 : Str} {C1 C2 C3 C4 C : Addr} {p1 p2 p3 p4 tp : Pos} {kk : Nat}
abbrev HitOk (X : Cx) (cs : List Str) (tt : Expr) : Prop := ∀ C, (∃ c ∈ cs, PySem.W.nsIn X.K mainGlobals c = some (some (.ref C))) → Hits X tt (.ref C)
abbrev noB (n : Str) : Prop := ∀ b : XB, (b.tl.any fun s => Str.ofString s == n) = false
theorem named_of (T : XCl X.K X.mg c1 C1) (hg : Gl X c1) (hd : (c1 == ("__debug__" : Str)) = false) : Named X c1 C1 := ⟨hg, hd, T.gm⟩
theorem hit1 (T : XCl X.K X.mg c1 C1) (hg : Gl X c1) (hn : noB c1 := by intro b; cases b <;> decide +kernel) (hd : (c1 == ("__debug__" : Str)) = false := by decide) : HitOk X [c1] (.Name c1 p1) := fun C ⟨c, hc, e⟩ => by
  obtain rfl := List.mem_singleton.mp hc
  obtain rfl := T.same e
  exact hits1 (named_of T hg hd) (by rw [T.exm T hn]; simp)
end
structure ItX (X : Cx) (cs : List Str) (n : Str) (v : V) : Prop where
  ex : ∃ u, ClsV v u ∧ ∀ c ∈ cs, ∀ C, XCl X.K X.mg c C → PySem.W.kitOne X.K (.ref C) u = some (isaX c n)
  pe : ∀ pos, PE X (.Name n pos) (tC v)
section
variable {X : Cx} {cs : List Str}
theorem itx_blt {n : String} (hg : Gl X (Str.ofString n)) (hm : X.mg (Str.ofString n) = none) (hcs : ∀ c ∈ cs, c ≠ Str.ofString n := by decide) (hk : PySem.W.kitMeta n = true := by decide +kernel)
    (hb : ∀ b : XB, (b.tl.map Value.type).contains (.type n) = b.tl.any (fun s => Str.ofString s == Str.ofString n) := by intro b; cases b <;> decide +kernel) (hv : bootBuiltins (Str.ofString n) = some (.type n) := by decide +kernel)
    (hnn : Str.ofString n ≠ "__name__" := by decide) (hd : (Str.ofString n == ("__debug__" : Str)) = false := by decide) : ItX X cs (Str.ofString n) (.ty n) :=
  ⟨⟨.type n, .ty n, fun c hc C T => T.kitB (hcs c hc) hk hb⟩, fun pos => pe_bltn hg hm hv rfl hnn hd⟩
variable {e : Expr} {te : TE} {Te : TEp} {pos fp : Pos} {n1 n2 n3 : Str} {v1 v2 v3 : V} {q1 q2 q3 tp : Pos} {kk : Nat}
end
end
end Pl
namespace L2
open PySem PySem.Spec PyProof.Rows
def exn (a C : Addr) : HO := .ext fun h => ∃ (oe : Obj) (vs : Array Value), h.get? a = some oe ∧ oe.cls = .ref C ∧ oe.dict = none ∧ oe.data = .fields vs
theorem exn_ok {P : Program} {w : World} {H : Hp} {h : Heap} {a C : Addr} {oe : Obj} {vs : Array Value} (e : h.get? a = some oe) (z : Zc (.ref C) none oe) (d : oe.data = .fields vs) : ObjOk P w H h a (exn a C) :=
  ⟨⟨oe, vs, e, z.1, z.2, d⟩, ⟨oe, e⟩, fun _ _ ⟨o, v, q, r⟩ k => ⟨o, v, k o q, r⟩⟩
theorem exn_at {P : Program} {w : World} {H : Hp} {h : Heap} {a C : Addr} (hok : HOk P w H h) (e : H a = some (exn a C)) : ∃ (oe : Obj) (vs : Array Value), h.get? a = some oe ∧ oe.cls = .ref C ∧ oe.dict = none ∧ oe.data = .fields vs := by
  have x : ObjOk P w H h a (.ext fun h => ∃ (oe : Obj) (vs : Array Value), h.get? a = some oe ∧ oe.cls = .ref C ∧ oe.dict = none ∧ oe.data = .fields vs) := hok a _ e
  exact x.1
section
variable {X : Cx} {pins : List (Addr × Obj)} {σ : St} {H : Hp} {s : Shared}
theorem Inv.track0 (I : Inv X pins σ H s) {a C : Addr} {oe : Obj} {vs : Array Value} (na : H a = none) (n0 : X.s_0.heap.get? a = none) (e : s.heap.get? a = some oe) (z : Zc (.ref C) none oe) (d : oe.data = .fields vs) (np : ∀ p ∈ X.pn ++ pins, p.1 ≠ a) (nL : a ≠ X.env.locals) :
    Inv X pins σ (upd H a (exn a C)) s := by
  have old : ∀ {b o}, X.s_0.heap.get? b = some o → b ≠ a := fun {b o} q x => by rw [x, n0] at q; cases q
  have far : ∀ {b : Addr} {o : HO}, H b = some o → b ≠ a := fun {b o} q => ne_of_none q na
  refine ⟨I.ok, I.os, I.bare, ⟨I.base.keep, I.base.slot, fun b o q n x => by rw [upd_ne (old q)]; exact I.base.free b o q n x, I.base.there, fun b xs q => ?_, fun b o u q => ?_, fun b ps q => ?_⟩, I.loc, I.cell, by rw [upd_ne (Ne.symm nL)]; exact I.free, fun x c q => ?_, fun p hp => ?_, fun b u q => ?_, I.len⟩
  · have q := I.base.tups b xs q
    rw [upd_ne (far q)]; exact q
  · have q := I.base.frzs b o u q
    rw [upd_ne (far q)]; exact q
  · obtain ⟨m, q⟩ := I.base.tbls b ps q
    exact ⟨m, by rw [upd_ne (far q)]; exact q⟩
  · obtain ⟨v, o, ho, hv⟩ := I.cell x c q
    have ne : c ≠ a := fun z => by
      rw [z, e] at ho
      cases ho
      have hv' : oe.data = .cell v := hv
      rw [d] at hv'
      cases hv'
    rw [upd_ne ne]; exact I.freeC x c q
  · obtain ⟨h1, h2, h3⟩ := I.pin p hp
    exact ⟨h1, by rw [upd_ne (np p hp)]; exact h2, h3⟩
  · by_cases hb : b = a
    · subst hb
      rw [upd_same] at q
      cases q
      exact exn_ok e z d
    · rw [upd_ne hb] at q
      exact (I.hok b u q).stay (fun _ _ _ y => y) (fun c y => by rw [upd_ne (far y)]; exact y) fun c xs y => by rw [upd_ne (far y)]; exact y
end
def wIs (i j : Nat) (ok : Addr → Prop) (D : Ends) : WX := fun cls d σ H => ∃ C, cls = .ref C ∧ d = none ∧ ok C ∧ ∀ a, H a = none → D.nx (((σ.set i (some (.ref a))).set j (some (.ref a))).set i none) (upd H a (exn a C))
section
variable {X : Cx} {n y : Str} {i j : Nat} {tt : Expr} {body : List Stmt} {p1 p2 p3 pos pos' : Pos} {tb : WX → TS} {ok : Addr → Prop}
theorem ps_try_is (hs : X.stack = X.env :: X.outer) (hf : X.env.frame = some X.env.locals) (hex : X.ex = []) (hN : X.N.Nodup) (hi : X.N[i]? = some n) (hj : X.N[j]? = some y) (hln : X.env.scope.names.lookup n = some .local) (hly : X.env.scope.names.lookup y = some .local)
    (hb : ∀ (W : WX) (pn : List (Addr × Obj)) (xe : Value → Shared → Prop), Takes (X.tr pn xe) W → PassesOwn (model X.prog X.w) X.A X.env xe → PSs (X.tr pn xe) body (tb W)) (hh : ∀ C, ok C → Hits X tt (.ref C))
    (sw : swapsWith (.Name n p2) (some (.Name y p1)) p3.line X.env = pure false := by rfl) (hd : (n == ("__debug__" : Str)) = false := by decide) (hcd : (n == ("__classdict__" : Str)) = false := by decide) :
    PS X (.Try body [.ExceptHandler (some tt) (some n) [.Assign [.Name y p1] (.Name n p2) p3] pos'] [] [] pos) (fun D σ H => tb (wIs i j ok D) D σ H) := by
  refine ⟨fun pins s σ H D I h => ?_⟩
  have I0 := I
  have xok := I.ok
  have hfr : X.A.frames = some (X.env :: X.outer) := by rw [xok.frames, hs]
  refine wpAny_Try_except (wpAny_mono ((hb (wIs i j ok D) (X.pn ++ pins) (fun e s₁ => wpAny (model X.prog X.w) X.A (noteFrame e X.env) (fun _ s₂ => wpAny (model X.prog X.w) X.A (setFlight e none) (fun _ s₃ =>
    wpAny (model X.prog X.w) X.A (handleBy e X.env [.ExceptHandler (some tt) (some n) [.Assign [.Name y p1] (.Name n p2) p3] pos']) (SP X pins D) X.xe s₃) X.xe s₂) X.xe s₁) (fun u s' xx => ?_) PassesOwn.looking).run [] s σ H D (I.toTry _) h) (fun f s1 hsp => ?_) (fun e s1 he => he))
  · obtain ⟨a, B, sI, pins', σ', H', cls, d, rfl, J', nb, up, sky, na, os, ag, C, rfl, rfl, hC, go⟩ := xx
    have J : Inv X pins σ' H' sI := J'.ofTry xok
    have sky' : Sky B (X.env :: X.outer) a (Zc (.ref C) none) X.env.locals s'.heap := by rw [← hs]; exact sky
    have Bn : B.get? a = none := by
      rcases sky' with ⟨_, q, _⟩ | f | f
      · exact q
      · exact f.2.1
      · exact f.2.1
    show wpAny (model X.prog X.w) X.A (noteFrame (.ref a) X.env) _ _ _
    refine Sky.land Zc.steady hfr hf sky' fun h3 fl3 up3 => ?_
    have J3 : Inv X pins σ' H' { s' with heap := h3 } := J.landed nb fl3.1 (up.trans up3) os ag
    obtain ⟨oe3, vs3, he3, hz3, hd3⟩ := fl3.there
    have nfr : a ∉ frs (X.env :: X.outer) := fun hm => by
      obtain ⟨_, o', e', hnf⟩ := fl3.2.2.1.mem hm
      rw [he3] at e'; cases e'
      exact hnf _ hd3
    have nL : a ≠ X.env.locals := fun z => nfr (List.mem_filterMap.mpr ⟨X.env, List.mem_cons_self, by rw [hf, z]⟩)
    have nF : a ∉ X.fs := fun hm => by
      obtain ⟨e, he, q⟩ := List.mem_filterMap.mp hm
      exact nfr (List.mem_filterMap.mpr ⟨e, List.mem_cons_of_mem _ he, q⟩)
    have nI : sI.heap.get? a = none := by
      cases e : sI.heap.get? a with
      | none => rfl
      | some o =>
        have z := nb a o e (by rw [hs]; exact nfr)
        rw [Bn] at z; cases z
    have n0 : X.s_0.heap.get? a = none := by
      cases e : X.s_0.heap.get? a with
      | none => rfl
      | some o =>
        obtain ⟨o', z⟩ := J.base.there a o e (by rw [hex]; exact fun z => nomatch z)
        rw [nI] at z; cases z
    have np : ∀ p ∈ X.pn ++ pins, p.1 ≠ a := fun p hp z => by
      have q := (J.pin p hp).1
      rw [z, nI] at q; cases q
    have S3 := J3.suite he3 hd3 na nL nF
    refine wpAny_handleBy_cons (codeAny_handlers_test ?_) (by intro q; cases q)
    have LT : PySem.W.Looks (model X.prog X.w) h3 (typeOf (.ref a)) (.ref C) := fun A Q E s k q => wpAny_typeOf_ref (k _ _ he3) (by rw [hz3.1]; exact q)
    refine hh C hC a oe3 (X.pn ++ pins) σ' H' { s' with heap := h3 } _ _ S3 LT fun c h5 k5 LM => LM.here ?_
    have fl5 : PySem.HandSPX.FlyingZ B (X.env :: X.outer) a (Zc (.ref C) none) h5 := flying_kept fl3 k5
    have up5 : sI.heap.UpToSlots h5 := (up.trans up3).trans (Heap.UpToSlots.of_keeps k5)
    refine codeAny_handlers_suite_as ?_
    refine PySem.HandSPX.lands_againZ fl5 fun h4 fl4 up4 => ?_
    have J4 : Inv X pins σ' H' { s' with heap := h4 } := J.landed nb fl4.1 (up5.trans up4) os ag
    obtain ⟨oe4, vs4, he4, hz4, hd4⟩ := fl4.there
    have T4 := J4.track0 na n0 he4 hz4 hd4 np nL
    have ok4 : (X.suite a (X.pn ++ pins)).Ok := xok.suite _ _
    have S4 : Inv (X.suite a (X.pn ++ pins)) [] σ' (upd H' a (exn a C)) { s' with heap := h4 } := ⟨ok4, T4.os, T4.bare, T4.base, T4.loc, T4.cell, T4.free, T4.freeC, fun p hp => T4.pin p (by rw [List.append_nil] at hp; exact hp), T4.hok, T4.len⟩
    refine store_ok (X := X.suite a (X.pn ++ pins)) (v := .ref a) S4 hN hi (.inl hln) rfl (fun s5 S5 => ?_) (.inr hln)
    have lenI : i < σ'.length := by
      rw [J.len]
      have q : X.N[i]? = some n := hi
      exact (List.getElem?_eq_some_iff.mp q).1
    have st : PSs (X.suite a (X.pn ++ pins)) [.Assign [.Name y p1] (.Name n p2) p3] (tAsg (tVar i) (gName j)) := pss_one (ps_set (X := X.suite a (X.pn ++ pins)) hN hj (.inl hly) (pe_var hi (.inl hln) hd hcd) sw (.inr hly))
    refine wpAny_mono (st.run [] s5 _ _ { nx := fun σ6 H6 => D.nx (σ6.set i none) H6, rt := fun _ _ => False } S5 ⟨.ref a, List.getElem?_set_self lenI, go a na⟩) (fun f s6 hsp => ?_) (fun _ _ z => False.elim z)
    cases f with
    | next =>
      obtain ⟨σ6, H6, S6, q6⟩ := hsp
      have U6 : Inv X pins σ6 H6 s6 := ⟨xok, S6.os, S6.bare, S6.base, S6.loc, S6.cell, S6.free, S6.freeC, fun p hp => S6.pin p (by rw [List.append_nil]; exact hp), S6.hok, S6.len⟩
      exact gone_ok U6 hN hi hln fun s7 J7 => ⟨_, _, J7, q6⟩
    | brk => obtain ⟨_, _, _, q6⟩ := hsp; exact q6.elim
    | cont => obtain ⟨_, _, _, q6⟩ := hsp; exact q6.elim
    | ret u => obtain ⟨_, _, _, _, _, q6⟩ := hsp; exact q6.elim
  · cases f with
    | next => obtain ⟨σ', H', J', q⟩ := hsp; exact wpAny_execs_nil ⟨σ', H', J'.ofTry xok, q⟩
    | brk => obtain ⟨σ', H', J', q⟩ := hsp; exact ⟨σ', H', J'.ofTry xok, q⟩
    | cont => obtain ⟨σ', H', J', q⟩ := hsp; exact ⟨σ', H', J'.ofTry xok, q⟩
    | ret u => obtain ⟨v, σ', H', J', r, q⟩ := hsp; exact ⟨v, σ', H', J'.ofTry xok, r, q⟩
end
def rIsN (K : PySem.W.Frag) : List V → Hp → VK → Prop := fun xs H Q => ∃ (a C : Addr) (nw : String) (tl : List Value) (c : V) (u : Value) (b : Bool), xs = [.ref a, c] ∧ H a = some (exn a C) ∧ OwnX K C nw tl ∧ tl.contains (.type "object") = true ∧ AskX K C ∧ ClsV c u ∧ PySem.W.kitOne K (.ref C) u = some b ∧ Q (.bl b) H
section
variable {X : Cx}
theorem exn_kit {K : PySem.W.Frag} {a C : Addr} {oe : Obj} {nw : String} {tl : List Value} (T : OwnX K C nw tl) (hob : tl.contains (.type "object") = true) (A : AskX K C) : PySem.W.KitX K (.ref a) (.ref C) (fun h => PySem.W.InstAt h a oe C none) := by
  obtain ⟨cd, h1, _, _⟩ := T.cd
  exact PySem.W.kitx_exc (by rw [h1]; rfl) A.ga A.gg T.exC A.ca A.hn A.ht (by rw [T.mro, hob, Bool.or_true])
theorem call_isN : CallR X (.builtin "isinstance") (rIsN X.K) := by
  intro pins s σ H xs us Q I r h
  obtain ⟨a, C, nw, tl, c, u, b, rfl, ea, T, hob, A, k, e, q⟩ := h
  obtain ⟨u1, u2, rfl, r1, r2⟩ := vals2 r
  cases (show u1 = Value.ref a from r1)
  have e2 := k.eq r2
  subst e2
  obtain ⟨oe, vs, ho, hc, hdict, hd⟩ := exn_at I.hok ea
  have J : PySem.W.InstAt s.heap a oe C none := ⟨ho, hc, by unfold PySem.W.notCls; rw [hd] <;> rfl, by rw [hdict]; trivial⟩
  exact PySem.W.kia_one (exn_kit T hob A) I.kIn J e (fun z => nomatch z) fun tk => ⟨.bl b, H, I.tok tk, rfl, q⟩
end
def spI0 (C : Addr) : Sp := fun vs H Q _ => ∃ a, vs = [.ref a] ∧ H a = some (exo a C none) ∧ Q .non H
def tMkO0 (C : Addr) (sp : Sp) : St → Hp → XK → Prop := fun σ H Q => ∀ a, H a = none → sp [.ref a] (upd H a (exo a C none)) (fun v H2 => v = .non ∧ H2 a = some (exo a C none) ∧ Q (.ref C) none (del H2 a)) (fun _ _ _ => False)
section
variable {X : Cx} {B newId initId : String} {tl : List Value} {pos p : Pos}
theorem mk_end_n {pins : List (Addr × Obj)} {σ : St} {H1 H2 : Hp} {Q : XK} {hp hp2 h2 : Heap} {g1 g2 : Array GenState} {d1 d2 : Drawn} {t1 t2 : Nat} {os1 os2 : OsState} {a C : Addr} (T : Raises X (.ref C)) (I1 : Inv X pins σ H1 ⟨hp, g1, d1, t1, os1⟩)
    (ha : hp.objs.size ≤ a) (k : ∀ b o, hp.get? b = some o → hp2.get? b = some o) (un : Un (frs X.stack) [] (upd H1 a (exo a C none)) H2 hp2 h2) (hok : HOk X.prog X.w H2 h2) (ho : os2 = os1) (hb : AllBare g2)
    (ea : H2 a = some (exo a C none)) (q : Q (.ref C) none (del H2 a)) : MkP X pins σ Q (.ref a) ⟨h2, g2, d2, t2, os2⟩ := by
  obtain ⟨t0, hoe⟩ := exo_at hok ea
  have hn : H1 a = none := I1.hok.fresh ha
  obtain ⟨G, g1', g2'⟩ := restrict h2 fun b => decide (b ≠ a)
  have gk : ∀ b, b ≠ a → G.get? b = h2.get? b := fun b hb => g1' b (decide_eq_true hb)
  have ge : G.get? a = none := g2' a (by simp)
  have nha : ∀ {b : Addr} {o : Obj}, hp.get? b = some o → b ≠ a := fun {b o} z => Nat.ne_of_lt (Nat.lt_of_lt_of_le (Heap.lt_size z) ha)
  have up : ∀ {b : Addr}, b ≠ a → H1 b = none → upd H1 a (exo a C none) b = none := fun {b} hb n => by rw [upd_ne hb]; exact n
  have U : Un (frs X.stack) [] H1 (del H2 a) hp G := {
    keep := fun b o z n hf hx => by
      rw [gk b (nha z)]
      exact un.keep b o (k b o z) (up (nha z) n) hf hx
    slot := fun b o z n hf hx => by
      rw [gk b (nha z)]
      exact un.slot b o (k b o z) (up (nha z) n) hf hx
    free := fun b o z n hx => by
      rw [del_ne (nha z)]
      exact un.free b o (k b o z) (up (nha z) n) hx
    there := fun b o z hx => by
      rw [gk b (nha z)]
      exact un.there b o (k b o z) hx
    tups := fun b xs z => by
      rw [del_ne (ne_of_none z hn)]
      exact un.tups b xs (by rw [upd_ne (ne_of_none z hn)]; exact z)
    frzs := fun b o v z => by
      rw [del_ne (ne_of_none z hn)]
      exact un.frzs b o v (by rw [upd_ne (ne_of_none z hn)]; exact z)
    tbls := fun b ps z => by
      rw [del_ne (ne_of_none z hn)]
      exact un.tbls b ps (by rw [upd_ne (ne_of_none z hn)]; exact z) }
  have hok3 : HOk X.prog X.w (del H2 a) G := fun b o z => by
    have hba : b ≠ a := fun e => by
      rw [e, del_same] at z
      cases z
    rw [del_ne hba] at z
    have noa : ∀ {c : Addr}, H2 c = some (.own b) → c ≠ a := fun {c} hc => at_ne ea hc exo_own
    exact (hok b o z).stay (fun c v hc y => by
        have hca : c ≠ a := by
          rcases hc with hc | hc
          · rw [hc]
            exact hba
          · exact noa hc
        rw [gk c hca]
        exact y)
      (fun c hc => by rw [del_ne (noa hc)]; exact hc) (fun c xs hc => by rw [del_ne (at_ne ea hc exo_tup)]; exact hc)
  have J : Inv X pins σ (del H2 a) ⟨G, g2, d2, t2, os2⟩ := I1.call' (ch := []) ho U hok3 hb (fun b z => absurd z (by simp))
  exact ⟨a, _, _, ⟨G, g2, d2, t2, os2⟩, _, .ref C, none, rfl, J, fun b o z => by
    by_cases hba : b = a
    · rw [hba, ge] at z
      cases z
    · exact (gk b hba).symm.trans z, ge, hoe, ⟨rfl, rfl⟩, rfl, rfl, by rw [del_same], rfl, hb, T, q⟩
theorem pmk_oy0 {CX : CXT} {x : Str} {C fI : Addr} {k : Nat} {fd : FuncData} {ps : List Str} {sp : Sp} (O : PySem.OEY.Over B newId initId tl) (T : OwnX X.K C newId tl) (iC : PySem.W.findIn X.K (.ref C) "__init__" = some (some (.ref fI))) (tI : PySem.W.typeIn X.K (.ref fI) = some (.type "function"))
    (F1 : FnOk X.prog X.w X.K X.mg X.base CX k fI fd ps sp) (hr : Room (k + 1) X.A) (hb : Binds X.K fd ps []) (hx : Passes CX X (fun _ _ _ => False)) (hg : Gl X x) (hm : X.mg x = some (.ref C))
    (hdb : (x == ("__debug__" : Str)) = false := by decide) :
    PMk X (.Call (.Name x p) [] [] pos) (tMkO0 C sp) := by
  intro pins s σ H Q I h
  obtain ⟨nm, q, N, bs, sn, sub, ab, col, dd, k0, k1, k2, k3, k5, hC⟩ := T.cls
  refine wpAny_Call_Name_kw (ld_glob I hg hm ?_ hdb)
  refine PySem.W.callWith_K0 I.kIn T.kC ?_
  show wpAny _ _ (call (.ref C) []) _ _ _
  have I1 := I
  obtain ⟨hp, g, dr, tk, os⟩ := s
  have up : hp.objs.size ≤ hp.objs.size + 1 := Nat.le_succ _
  have hn : H (hp.objs.size + 1) = none := I1.hok.fresh up
  have hq := h (hp.objs.size + 1) hn
  have kk : ∀ b o, hp.get? b = some o → ((hp.push (PySem.W.kdv_tup [])).push (PySem.HandSPX.excO C hp.objs.size)).get? b = some o := fun b o e => Heap.get?_push_of_some _ (Heap.get?_push_of_some _ e)
  have laid : ((hp.push (PySem.W.kdv_tup [])).push (PySem.HandSPX.excO C hp.objs.size)).get? (hp.objs.size + 1) = some (PySem.HandSPX.excO C hp.objs.size) := by heap_get
  have I2 : Inv X pins σ (upd H (hp.objs.size + 1) (exo (hp.objs.size + 1) C none)) ⟨(hp.push (PySem.W.kdv_tup [])).push (PySem.HandSPX.excO C hp.objs.size), g, dr, tk, os⟩ :=
    I1.laid (t' := tk) (a := hp.objs.size + 1) (o := exo (hp.objs.size + 1) C none) (h' := (hp.push (PySem.W.kdv_tup [])).push (PySem.HandSPX.excO C hp.objs.size)) kk up (exo_ok laid)
  have r2 : Vals [V.ref (hp.objs.size + 1)] [Value.ref (hp.objs.size + 1)] := .cons rfl .nil
  have hl : [Value.ref (hp.objs.size + 1)].length = ps.length := F1.len _ _ _ _ hq
  refine wpAny_call (PySem.HandSPX.call_own O.facts (fun _ => rfl) (I1.kIn _ _ hC) (PySem.W.looks_findIn I1.kIn iC) (fun self => PySem.W.bind_fn I1.kIn self tI) (by decide)
    (codeAny_mono (F1.run _ X.stack _ _ ⟨[Value.ref (hp.objs.size + 1)], []⟩ [Value.ref (hp.objs.size + 1)] _ _ (fun _ _ _ => False) (hr.make C [] []) (I2.env0.make C [] []) (hb _ [Value.ref (hp.objs.size + 1)] I2.kIn (by simpa using hl)) r2 hq) fun r s' hq' => ?_))
  match r, hq' with
  | .error er, hq' => exact hx pins σ _ _ er s' I2 hq'
  | .ok (.ret u), hq' =>
    obtain ⟨v, H2, os2, bare2, un2, hok2, rv, ev, ea, q2⟩ := hq'
    subst ev
    obtain ⟨h2, g2, d2, t2, os'⟩ := s'
    exact ⟨rv, mk_end_n (raises_own T.exC T.tyC) I1 up kk un2 hok2 os2 bare2 ea q2⟩
  | .ok .next, hq' => exact hq'.elim
  | .ok .brk, hq' => exact hq'.elim
  | .ok .cont, hq' => exact hq'.elim
end
end L2
namespace Pl
open PySem PySem.Spec PyProof.Rows L2
section
variable [TJ]
section
variable {X : Cx} {W : WX} {x : Str} {C fI : Addr} {k : Nat} {fd : FuncData} {ps : List Str} {p pos pos2 : Pos} {newId initId B : String} {tl : List Value}
def xRaise0 : TXs := fun _ xx ρ => xx ⟨unl, .non⟩ ρ
theorem pxs_raise0 (hc : X.calm = true) (tk : Takes X W) (O : PySem.OEY.Over B newId initId tl) (T : OwnX X.K C newId tl) (hns : PySem.W.nsIn X.K mainGlobals x = some (some (.ref C))) (iC : PySem.W.findIn X.K (.ref C) "__init__" = some (some (.ref fI))) (tI : PySem.W.typeIn X.K (.ref fI) = some (.type "function"))
    (F1 : FnOk X.prog X.w X.K X.mg X.base CX0 k fI fd ps (spI0 C)) (hr : Room (k + 1) X.A) (hb : Binds X.K fd ps []) (hg : Gl X x) (hm : X.mg x = some (.ref C))
    (hdb : (x == ("__debug__" : Str)) = false := by decide) (hU : x = ("Unlike" : Str) := by rfl) :
    PXS X W (.Raise (some (.Call (.Name x p) [] [] pos)) none pos2) (fun _ σ H => tMkO0 C (spI0 C) σ H fun cls d H' => W cls d σ H') xRaise0 :=
  ⟨ps_raise hc tk (pmk_oy0 O T iC tI F1 hr hb pass0 hg hm hdb), fun G F H σ ρ P D xx S hT r hx a na => by
    have e : del (upd H a (exo a C none)) a = H := funext fun b => by
      by_cases hb : b = a
      · rw [hb, del_same, na]
      · rw [del_ne hb, upd_ne hb]
    refine ⟨a, rfl, upd_same, rfl, upd_same, ?_⟩
    rw [e]
    exact hx F H σ ρ _ _ ⟨unl, .non⟩ (.refl _ _) S ⟨C, rfl, .inr ⟨rfl, by rw [← hU]; exact hns, rfl⟩⟩ hT⟩
end
section
variable {P : Program} {w : World} {K : PySem.W.Frag} {mg : Str → Option Value} {base : Heap} {x qual c m : Str} {st : Stmt} {f C : Addr} {fd : FuncData} {k : Nat}
theorem ok_init0 (Fn : Fun K x qual st f fd) (S : FnScope ["self"] ["self"] (defScope st)) (T : XCl K mg c C)
    (hb : ∀ (cdv : Value) (A : Around) (outer : List Env) (s : Shared) (H : Hp) (E : XK), Room k (A.deeper (envOfC qual (defScope st) s.heap.objs.size f cdv)) →
      PSs (cxOf CX0 P w K mg base ["self"] qual (defScope st) f cdv A outer s H E).nox (defBody st) (tDrop (tOyI K (xb c).new (xtl c) (tCons (tVar 0) (tCons (tC (.str m)) tNil))))) :
    FnOk P w K mg base CX0 (k + 1) f fd ["self"] (spI0 C) := by
  refine Fn.ok S (fun vs H Q E h => ?_) (fun cdv A outer s H vs Q E hr h => ?_)
  · obtain ⟨a, rfl, _⟩ := h
    rfl
  · refine ⟨_, hb cdv A outer s H E hr, ?_⟩
    obtain ⟨a, rfl, ea, hq⟩ := h
    exact ⟨.ref a, rfl, a, C, [.str m], rfl, by show (1 : Nat) ≤ 1000; decide, T.own, ea, hq⟩
end
section
variable {X : Cx} {n y : Str} {i j : Nat} {tt : Expr} {body : List Stmt} {p1 p2 p3 p4 pos pos' pos2 fp cp q1 : Pos} {T : TXs} {n1 : Str} {v1 : V}
def pTryIs (i j : Nat) (n1 : Str) (T : TXs) : TSp := fun P ρ => T { nx := fun _ => False, rt := fun _ _ => False, bk := fun _ => False, ct := fun _ => False } (fun x ρ' => x.c = unl ∧ j < ρ'.length ∧ P.rt (.val (.bl ([n1].any (isaX "Unlike")))) (((ρ'.set i none).set j none).set i none)) ρ
theorem pss_tryIs (hs : X.stack = X.env :: X.outer) (hf : X.env.frame = some X.env.locals) (hex : X.ex = []) (hN : X.N.Nodup) (hi : X.N[i]? = some n) (hj : X.N[j]? = some y) (hln : X.env.scope.names.lookup n = some .local) (hly : X.env.scope.names.lookup y = some .local)
    (hb : ∀ (W : WX) (pn : List (Addr × Obj)) (xe : Value → Shared → Prop), Takes (X.tr pn xe) W → PassesOwn (model X.prog X.w) X.A X.env xe → PXSs (X.tr pn xe) W body (liftXS X.K W T) T)
    (hh : HitOk X ["Unlike"] tt) (Zc : XCs X.K X.mg ["Unlike"]) (I1 : ItX X ["Unlike"] n1 v1) (hg : Gl X "isinstance") (hm : X.mg "isinstance" = none)
    (sw : swapsWith (.Name n p2) (some (.Name y p1)) p3.line X.env = pure false := by rfl) (hd : (n == ("__debug__" : Str)) = false := by decide) (hcd : (n == ("__classdict__" : Str)) = false := by decide)
    (hdy : (y == ("__debug__" : Str)) = false := by decide) (hcy : (y == ("__classdict__" : Str)) = false := by decide) (hij : i ≠ j := by decide)
    (hsa : starEach [.Name y p4, .Name n1 q1] X.env = (false, eval (.Name y p4) X.env) :: starEach [.Name n1 q1] X.env := by rfl) (hs2 : starEach [.Name n1 q1] X.env = (false, eval (.Name n1 q1) X.env) :: starEach [] X.env := by rfl) (hpl : (backTo cp (starEach [.Name n1 q1] X.env)).any (·.1) = false := by rfl) :
    PPSs X [.Try body [.ExceptHandler (some tt) (some n) [.Assign [.Name y p1] (.Name n p2) p3] pos'] [] [] pos, .Return (some (.Call (.Name "isinstance" fp) [.Name y p4, .Name n1 q1] [] cp)) pos2]
      (tSeq (fun D σ H => liftXS X.K (wIs i j (fun C => ∃ c ∈ (["Unlike"] : List Str), PySem.W.nsIn X.K mainGlobals c = some (some (.ref C))) D) T D σ H) (tRet (tCB (rIsN X.K) (tCons (tVar j) (tCons (tC v1) tNil))))) (pTryIs i j n1 T) :=
  ⟨pss_cons (ps_try_is (tb := fun W => liftXS X.K W T) hs hf hex hN hi hj hln hly (fun W pn xe tk po => (hb W pn xe tk po).ps) hh sw hd hcd)
    (pss_one (ps_ret (pe_callB call_isN hg hm (by decide +kernel) (pa_cons (pe_var hj (.inl hly) hdy hcy) (pa_cons (I1.pe q1) pa_nil hs2) hsa) (by decide) (by decide) hsa hpl))),
   fun G F H σ ρ P D S hT r => by
    refine ⟨G, F, ρ, _, _, S, hT, ⟨fun _ _ _ _ _ _ q => q.elim, fun _ _ _ _ _ _ _ _ q => q.elim, fun _ _ _ _ _ _ q => q.elim, fun _ _ _ _ _ _ q => q.elim⟩, fun F' H' σ' ρ' cls d x u S' xr q => ?_⟩
    obtain ⟨C, h2, h | ⟨h3, h1, h4⟩⟩ := xr
    · exact absurd q.1 h.1
    refine ⟨C, h2, h4, ⟨"Unlike", by simp, h1⟩, fun a na => ?_⟩
    obtain ⟨C', Tc⟩ := Zc "Unlike" (by simp)
    obtain rfl := Tc.same h1
    obtain ⟨u1, cv, hk⟩ := I1.ex
    have hk := hk "Unlike" (by simp) C Tc
    have fa : F' a = none := S'.freshF na
    have S1 := S'.new (o := exn a C) na
    have lj : j < σ'.length := by
      rw [S'.len]
      exact q.2.1
    refine ⟨.ref a, ?_, a, C, _, _, v1, u1, _, rfl, upd_same, Tc.own, xtl_obj _, Tc.ask, cv, hk, ?_⟩
    · show (((σ'.set i (some (.ref a))).set j (some (.ref a))).set i none)[j]? = _
      rw [List.getElem?_set_ne hij, List.getElem?_set_self (by rw [List.length_set]; exact lj)]
    · have q2 := q.2.2
      simp only [List.any_cons, List.any_nil, Bool.or_false] at q2
      exact r.rt _ _ _ _ _ _ (u.trans (S'.upNew na)) ((((S1.forget i none).forget j none).forget i none).pushVal (.bl _)) q2⟩
end
end
end Pl
namespace L2
open PySem PySem.Spec PyProof.Rows
section
variable {X : Cx} {pins : List (Addr × Obj)} {σ : St} {H H' : Hp} {s s' : Shared} {W : WX} {B : Heap} {a : Addr} {cls : Value} {d : Option Addr}
theorem XE.of_held (I : Inv X pins σ H s) (fl : PySem.HandSPX.HeldZ B X.stack a (Zc cls d) X.env.locals s'.heap) (hok : HOk X.prog X.w H' B) (ub : UB (frs X.stack) H H' s.heap B s'.heap) (na : H' a = none) (os : s'.os = s.os) (ag : AllBare s'.gens) (w : W cls d σ H') : XE X W (.ref a) s' := by
  obtain ⟨G, g1, g2⟩ := restrict s'.heap fun b => (B.get? b).isSome || decide (b ∈ frs X.stack)
  have st : B.StaysIn s'.heap := fl.1
  have gB : ∀ b o, B.get? b = some o → G.get? b = some o := fun b o e => by
    rw [g1 b (by simp [e])]
    exact st b o e
  have gF : ∀ b, b ∈ frs X.stack → G.get? b = s'.heap.get? b := fun b hb => g1 b (by simp [hb])
  have og : ∀ b o, G.get? b = some o → s'.heap.get? b = some o ∧ ((B.get? b).isSome = true ∨ b ∈ frs X.stack) := fun b o e => by
    cases q : ((B.get? b).isSome || decide (b ∈ frs X.stack)) with
    | false => rw [g2 b q] at e; cases e
    | true =>
      rw [g1 b q] at e
      exact ⟨e, by simpa [Bool.or_eq_true] using q⟩
  refine ⟨a, B, { s with heap := G, gens := s'.gens, drawn := s'.drawn, toks := s'.toks }, pins, σ, H', cls, d, rfl, ?_, fun b o e hb => ?_, Heap.UpToSlots.of_keeps fun b o e => (og b o e).1, .inr (.inr fl), na, os, ag, w⟩
  · refine I.call (ch := []) ⟨fun b o e n hb _ => gB b o (ub.keep b o e n hb), fun b o e n hb _ => ?_, fun b o e n _ => ub.free b o e n, fun b o e _ => ?_, ub.tups, ub.frzs, ub.tbls⟩ (hok.kept gB) ag (fun _ z => nomatch z)
    · obtain ⟨sl, q⟩ := ub.slot b o e hb
      exact ⟨sl, by rw [gF b hb]; exact q⟩
    · by_cases hb : b ∈ frs X.stack
      · obtain ⟨sl, q⟩ := ub.slot b o e hb
        exact ⟨_, by rw [gF b hb]; exact q⟩
      · obtain ⟨o', q⟩ := ub.there b o e hb
        exact ⟨o', gB b o' q⟩
  · obtain ⟨e', h⟩ := og b o e
    rcases h with h | h
    · obtain ⟨o', q⟩ := Option.isSome_iff_exists.mp h
      have z := st b o' q
      rw [e'] at z; cases z
      exact q
    · exact absurd h hb
theorem fails_out {cenv : Env} {C : Addr} {u : Value} {s1 : Shared} {G : Heap} {m : Str → Option Value} (hs : X.stack = X.env :: X.outer) (hf : X.env.frame = some X.env.locals) (tk : Takes X W)
    (cf : cenv.frame = X.env.frame) (cL : cenv.locals = C) (IX : Inv X pins σ H { s with heap := G }) (gk : ∀ b, b ≠ C → G.get? b = s.heap.get? b) (gC : G.get? C = none)
    (hn : s.heap.Ns C m) (HC : H C = none) (CF : C ∉ frs X.stack) (c : CX X.prog X.w X.stack H s (fun cls d H' => W cls d σ H') u s1) :
    notedBy (model X.prog X.w) X.A cenv (CompFails (model X.prog X.w) X.A X.xe cenv) u s1 := by
  obtain ⟨a, B, H', cls, d, rfl, fl, hok, ub, na, os, ag, hE⟩ := c
  have hfr : X.A.frames = some (X.env :: X.outer) := by rw [IX.ok.frames, hs]
  show wpAny _ _ (noteFrame (.ref a) cenv) _ _ _
  rw [noteFrame_env _ cf]
  have fl' : PySem.HandSPX.FlyingZ B (X.env :: X.outer) a (Zc cls d) s1.heap := by rw [← hs]; exact fl
  refine PySem.HandSPX.looks_onZ Zc.steady hfr hf fl' fun h3 hh up3 => ?_
  obtain ⟨oC, esC, epC, hoC, hdC, hrC⟩ := hn
  have BC : B.get? C = some oC := ub.keep C oC hoC HC CF
  have h3C : h3.get? C = some oC := hh.1 C oC BC
  have hn3 : h3.Ns C m := ⟨oC, esC, epC, h3C, hdC, hrC⟩
  obtain ⟨k1, k2, k3, oe, vs, T, oT, ts, he, hz, hd, h1, hnT, hTe, hT, hdT, ht3⟩ := hh
  have aC : a ≠ C := fun z => by rw [z, BC] at k2; cases k2
  have TC : T ≠ C := fun z => by rw [z, BC] at hnT; cases hnT
  refine ⟨m, by rw [cL]; exact hn3, fun h' m' hn' sb => ?_⟩
  rw [cL] at hn' sb
  obtain ⟨BB, b1, b2⟩ := restrict B fun b => decide (b ≠ C)
  have bk : ∀ b, b ≠ C → BB.get? b = B.get? b := fun b hb => b1 b (decide_eq_true hb)
  have bC : BB.get? C = none := b2 C (by simp)
  have bB : ∀ b o, BB.get? b = some o → b ≠ C ∧ B.get? b = some o := fun b o e => by
    have n : b ≠ C := fun z => by rw [z, bC] at e; cases e
    exact ⟨n, by rw [← bk b n]; exact e⟩
  have hh' : PySem.HandSPX.HeldZ BB (X.env :: X.outer) a (Zc cls d) X.env.locals h' := by
    refine ⟨fun b o e => ?_, by rw [bk a aC]; exact k2, ?_, oe, vs, T, oT, ts, (sb.2 a aC).trans he, hz, hd, h1, by rw [bk T TC]; exact hnT, hTe, (sb.2 T TC).trans hT, hdT, ht3⟩
    · obtain ⟨n, e⟩ := bB b o e
      exact (sb.2 b n).trans (k1 b o e)
    · exact PySem.W.funFrames_base (fun b o e => (bB b o e).2) (Heap.FunFrames.sameBut sb hn' k3)
  unfold PySem.passOn
  refine wpAny_bind (wpAny_field (show h'.get? a = some oe from (sb.2 a aC).trans he) hd h1 ?_)
  rw [if_neg (show ¬ ((Value.ref T == Value.none) = true) from by simp)]
  rw [cf, hf]
  refine wpAny_bind (PySem.HandSPX.setFlight_onZ hh' fun h4 hh4 up4 => ?_)
  refine wpAny_throw (tk _ _ ?_)
  have hh5 : PySem.HandSPX.HeldZ BB X.stack a (Zc cls d) X.env.locals h4 := by rw [hs]; exact hh4
  have gG : ∀ b o, G.get? b = some o → b ≠ C ∧ s.heap.get? b = some o := fun b o e => by
    have n : b ≠ C := fun z => by rw [z, gC] at e; cases e
    exact ⟨n, by rw [← gk b n]; exact e⟩
  have H'C : H' C = none := ub.free C oC hoC HC
  refine XE.of_held (s' := { s1 with heap := h4 }) IX hh5 (fun b o q => ?_) ⟨fun b o e n hb => ?_, fun b o e hb => ?_, fun b o e n => ub.free b o (gG b o e).2 n, fun b o e hb => ?_, ub.tups, ub.frzs, ub.tbls⟩ na os ag hE
  · have nb : b ≠ C := fun z => by rw [z, H'C] at q; cases q
    exact (hok b o q).stay (fun c v hc y => by
      have nc : c ≠ C := by
        rcases hc with hc | hc
        · rw [hc]; exact nb
        · exact fun z => by rw [z, H'C] at hc; cases hc
      rw [bk c nc]; exact y) (fun c y => y) fun c xs y => y
  · obtain ⟨n', e'⟩ := gG b o e
    rw [bk b n']
    exact ub.keep b o e' n hb
  · obtain ⟨n', e'⟩ := gG b o e
    obtain ⟨sl, q⟩ := ub.slot b o e' hb
    obtain ⟨_, o2, q2, nf⟩ := fl.2.2.1.mem hb
    rw [q] at q2
    cases q2
    obtain ⟨sl3, q3⟩ := up3 b _ q nf
    have q4 := (sb.2 b n').trans q3
    obtain ⟨sl5, q5⟩ := up4 b _ q4 nf
    exact ⟨sl5, q5⟩
  · obtain ⟨n', e'⟩ := gG b o e
    obtain ⟨o', q⟩ := ub.there b o e' hb
    exact ⟨o', by rw [bk b n']; exact q⟩
end
section
variable {X : Cx} {W : WX}
def tLcX (wi : TI) (g : TG) (te : St → TE) (vs : List Nat) : TE := fun σ H _ => wi σ H fun J H1 => ∀ D, H1 D = none → J.go 0 (upd H1 D (.lst [])) ∧ ∀ x H', J.yld 0 (upd H1 D (.lst [])) x H' → g x (wipe σ vs) H' fun σ2 H2 => te σ σ2 H2 fun _ _ => False
theorem pe_lcX {k : Nat} {f : Addr} {fd : FuncData} {ps : List Str} {sp : Sp} {x : Str} {p pc pos : Pos} {e tg iter : Expr} {es : List Expr} {scope : Scope} {own : List (Str × Nat)} {wi : TI} {g : TG} {t : TA} (hs : X.stack = X.env :: X.outer) (hf : X.env.frame = some X.env.locals) (hc : X.calm = true) (hN : X.N.Nodup) (tk : Takes X W) (hi : PI X tg iter wi) (ok : BlkOk X.N X.env.scope scope own)
    (hg : ∀ (s : Shared) (H : Hp) (C : Addr) (cl : List (Str × Addr)) (fp : List Addr), PG (X.blk s H scope (compEnvC scope cl C X.env) fp) tg g)
    (F1 : FnOk X.prog X.w X.K X.mg X.base (CX X.prog X.w) k f fd ps sp) (hr : Room k X.A) (hgl : ∀ (s : Shared) (H : Hp) (C : Addr) (cl : List (Str × Addr)) (fp : List Addr), Gl (X.blk s H scope (compEnvC scope cl C X.env) fp) x) (hm : X.mg x = some (.ref f)) (hk : PySem.W.keepIn X.K (.ref f) = true) (hb : Binds X.K fd ps [])
    (ha : ∀ (s : Shared) (H : Hp) (C : Addr) (cl : List (Str × Addr)) (fp : List Addr) (pn : List (Addr × Obj)) (xe : Value → Shared → Prop), PA ((X.blk s H scope (compEnvC scope cl C X.env) fp).tr pn xe) (e :: es) t)
    (hdb : (x == ("__debug__" : Str)) = false := by decide) (he : ∀ env, starEach (e :: es) env = (false, eval e env) :: starEach es env := by intro _; rfl) (hpl : ∀ env, (backTo pc (starEach es env)).any (·.1) = false := by intro _; rfl) (hsx : ∀ y, foldedSetIterable iter X.env y = pure y := by intro _; rfl) :
    PE X (.ListComp (.Call (.Name x p) (e :: es) [] pc) [⟨tg, iter, [], 0⟩] scope pos) (tLcX wi g (fun σ0 => tCallSD sp [] (fun _ cls d H' => W cls d σ0 H') t) (own.map (·.2))) := by
  refine ⟨fun pins s σ H Q I h => ?_⟩
  rw [eval_ListComp]
  have hfree : ∀ y ∈ scope.names, y.2 = .free → ∃ c, X.env.cells.lookup y.1 = some c := fun y hy e => by
    rcases ok.free y hy e with k | k
    · exact I.ok.has _ (.inl k)
    · exact I.ok.has _ (.inr k)
  refine comprehension_at (use := none) rfl hsx (closure_ok hfree) ok.kind (fun y hy e => by rw [ok.uniq y hy, e])
    (thn (hi.run pins s σ H _ I h) fun xv s1 hx => thn hx fun itv s2 h2 => ?_)
  obtain ⟨it, fp, tn, J, H2, e2, I2, T, st2, f2, q⟩ := h2
  subst e2
  refine wpAny_newObj_type (newEnv_comp ?_) (by show 0 ≤ sizeLine; decide)
  generalize hD : s2.heap.objs.size = D
  have hDn : H2 D = none := I2.hok.fresh (Nat.le_of_eq hD)
  obtain ⟨go, step⟩ := q D hDn
  generalize hs3 : ({ s2 with heap := s2.heap.push { cls := .type "list", data := .seq ([] : List Value).toArray } } : Shared) = s3
  have I3 : Inv X pins σ (upd H2 D (.lst [])) s3 := by
    rw [← hs3]
    refine I2.laid (t' := s2.toks) (fun b o e => Heap.get?_push_of_some _ e) (Nat.le_of_eq hD) ⟨Nat.zero_le _, [], 0, .nil, ?_⟩
    rw [← hD]
    exact Heap.get?_push_size _ rfl
  have h3 : s3.heap = s2.heap.push { cls := .type "list", data := .seq ([] : List Value).toArray } := by rw [← hs3]
  have sz : ∀ b ∈ fp, b < s2.heap.objs.size := fun b hb => by
    obtain ⟨o, e, _⟩ := T.obj _ _ st2 b hb
    exact Heap.lt_size e
  have f3 : ∀ b ∈ fp, FpOk X pins (upd H2 D (.lst [])) b ∧ b < s3.heap.objs.size := fun b hb => by
    have hlt := sz b hb
    refine ⟨⟨?_, (f2 b hb).2⟩, by rw [h3, Heap.size_push]; exact Nat.lt_succ_of_lt hlt⟩
    rw [upd_ne (by rw [← hD]; exact Nat.ne_of_lt hlt)]
    exact (f2 b hb).1
  have st3 : tn 0 s3.heap := T.keep _ _ _ st2 fun b _ o e => by rw [h3]; exact Heap.get?_push_of_some _ e
  have I4 := block_start I3 ok hN f3
  have pg := hg s3 (upd H2 D (.lst [])) s3.heap.objs.size (cellsFrom (s3.heap.objs.size + 1) scope.names (cloFrom X.env.cells scope.names [])) fp
  have pgl := hgl s3 (upd H2 D (.lst [])) s3.heap.objs.size (cellsFrom (s3.heap.objs.size + 1) scope.names (cloFrom X.env.cells scope.names [])) fp
  have pa := ha s3 (upd H2 D (.lst [])) s3.heap.objs.size (cellsFrom (s3.heap.objs.size + 1) scope.names (cloFrom X.env.cells scope.names [])) fp
  have cf : (compEnvC scope (cellsFrom (s3.heap.objs.size + 1) scope.names (cloFrom X.env.cells scope.names [])) s3.heap.objs.size X.env).frame = X.env.frame := rfl
  show codeAny _ _ (.compStart (.ListComp (.Call (.Name x p) (e :: es) [] pc) [⟨tg, iter, [], 0⟩] scope pos) 0 (.ref it) (.ref D) (compEnvC scope (cellsFrom (s3.heap.objs.size + 1) scope.names (cloFrom X.env.cells scope.names [])) s3.heap.objs.size X.env)) (compEnds (model X.prog X.w) X.A X.xe none _ (.ref D) (compEnvC scope (cellsFrom (s3.heap.objs.size + 1) scope.names (cloFrom X.env.cells scope.names [])) s3.heap.objs.size X.env)) { s3 with heap := pushCells (s3.heap.push { cls := .type "dict", data := .dict #[] }) scope.names }
  have nfp : ∀ b ∈ fp, (upd H2 D (.lst [])) b = none := fun b hb => (f3 b hb).1.1
  generalize hce : compEnvC scope (cellsFrom (s3.heap.objs.size + 1) scope.names (cloFrom X.env.cells scope.names [])) s3.heap.objs.size X.env = ce at I4 pg pgl pa cf ⊢
  have cL : ce.locals = s3.heap.objs.size := by subst hce; rfl
  generalize hH3 : upd H2 D (.lst []) = H3 at I3 I4 pg pgl pa nfp f3 go step
  generalize hs4 : ({ s3 with heap := pushCells (s3.heap.push { cls := .type "dict", data := .dict #[] }) scope.names } : Shared) = s4 at I4 ⊢
  have st4 : tn 0 s4.heap := T.keep _ _ _ st3 fun b _ o e => by rw [← hs4]; exact pushCells_keeps _ _ _ _ (Heap.get?_push_of_some _ e)
  have stat : ∀ {σ' : St} {H' : Hp} {s' : Shared}, Inv (X.blk s3 H3 scope ce fp) [] σ' H' s' → (∀ b ∈ fp, H' b = none) → ∀ b ∈ fp, FpOk (X.blk s3 H3 scope ce fp) [] H' b := fun {σ' H' s'} I' hn b hb =>
    ⟨hn b hb, (I'.ok.exf b hb).1, I'.ok.exfs b hb, .inl hb, fun x c e => (I'.ok.exf b hb).2 x c e, fun p hp => absurd (show p ∈ ([] : List (Addr × Obj)) ++ [] from hp) (by simp)⟩
  have loop : codeAny (model X.prog X.w) X.A (.compLoop (.ListComp (.Call (.Name x p) (e :: es) [] pc) [⟨tg, iter, [], 0⟩] scope pos) 0 (.ref it) (.ref D) ce) (compEnds (model X.prog X.w) X.A X.xe none (EP X pins σ Q) (.ref D) ce) s4 := by
    refine compLoop_any (fun n s' => n = 0 ∧ s' = s4) ?_ 0 ⟨rfl, rfl⟩
    rintro n s5 ⟨hn0, hs5⟩
    subst hn0
    subst hs5
    have ti := T.item (X.blk s3 H3 scope ce fp) rfl rfl rfl hc 0 [] s5 _ H3 (fun _ _ => False) I4 (stat I4 nfp) st4 go
    refine thnF ti fun r s6 ⟨u, hr, h6⟩ => ?_
    subst hr
    refine thnF h6 fun _ s7 ⟨y, H7, I7, r7, y7, st7, n7⟩ => ?_
    have I7' := I7.pinned (stat I7 n7) (T.obj _ _ st7)
    refine thnF (pg.run _ s7 _ H7 y u _ I7' r7 (step y H7 y7)) fun _ s8 ⟨σ8, H8, I8, q8⟩ => ?_
    refine wpAny_tests_nil ?_
    simp only [if_true]
    have r := (pe_callSD (X := (X.blk s3 H3 scope ce fp).tr ((X.blk s3 H3 scope ce fp).pn ++ ([] ++ pinsAt fp s7.heap)) fun u s' => ∃ (σ9 : St) (H9 : Hp) (s9 : Shared), Inv (X.blk s3 H3 scope ce fp) ([] ++ pinsAt fp s7.heap) σ9 H9 s9 ∧ CX X.prog X.w X.stack H9 s9 (fun cls d H' => W cls d σ H') u s')
      (E := fun _ cls d H' => W cls d σ H') (p := p) (pos := pc) F1 hr pgl hm hk hb .nil (fun σ9 pins9 H9 s9 e s' I9 c => ⟨σ9, H9, s9, I9.ofTry I8.ok, c⟩) (pa _ _) hdb (he _) (hpl _)).run [] s8 σ8 H8 _ (I8.toTry _) q8
    refine wpAny_mono r (fun v s9 hv => ?_) fun u s9 hu => ?_
    · obtain ⟨_, _, _, _, hv⟩ := hv
      exact hv.elim
    · obtain ⟨σ9, H9, s10, I9, c⟩ := hu
      obtain ⟨G, g1, g2⟩ := restrict s10.heap fun b => decide (b ≠ s3.heap.objs.size)
      have gk : ∀ b, b ≠ s3.heap.objs.size → G.get? b = s10.heap.get? b := fun b hb => g1 b (decide_eq_true hb)
      have gC : G.get? s3.heap.objs.size = none := g2 _ (by simp)
      have HC : H9 s3.heap.objs.size = none := by
        have z : H9 ce.locals = none := I9.free
        rw [cL] at z
        exact z
      have CF : s3.heap.objs.size ∉ frs X.stack := fun hm => by
        obtain ⟨_, o', e', _⟩ := I3.stack.mem hm
        exact Nat.lt_irrefl _ (Heap.lt_size e')
      obtain ⟨m, hn, _⟩ := I9.loc
      have hn : s10.heap.Ns ce.locals m := hn
      rw [cL] at hn
      have ne : ∀ b o, s3.heap.get? b = some o → b ≠ s3.heap.objs.size := fun b o e => Nat.ne_of_lt (Heap.lt_size e)
      have IX : Inv X pins σ H9 { s10 with heap := G } := I3.call' (ch := fp) I9.os
        ⟨fun b o e n h1 h2 => by rw [gk b (ne b o e)]; exact I9.base.keep b o e n h1 h2, fun b o e n h1 h2 => by rw [gk b (ne b o e)]; exact I9.base.slot b o e n h1 h2, fun b o e n h1 => I9.base.free b o e n h1,
          fun b o e h1 => by rw [gk b (ne b o e)]; exact I9.base.there b o e h1, I9.base.tups, I9.base.frzs, I9.base.tbls⟩
        (fun b o q => by
          have nb : b ≠ s3.heap.objs.size := fun z => by rw [z, HC] at q; cases q
          exact (I9.hok b o q).stay (fun c v hc y => by
            have nc : c ≠ s3.heap.objs.size := by
              rcases hc with hc | hc
              · rw [hc]; exact nb
              · exact fun z => by rw [z, HC] at hc; cases hc
            rw [gk c nc]; exact y) (fun c y => y) fun c xs y => y) I9.bare fun b hb => ⟨(f3 b hb).1.2.2.2.1, (f3 b hb).1.2.1, (f3 b hb).1.2.2.2.2.1, (f3 b hb).1.2.2.2.2.2⟩
      exact fails_out hs hf tk cf cL IX gk gC hn HC CF c
  exact codeAny_compStart_list loop (T.self X.A 0 _ _ _ st4 loop)
end
end L2
namespace Pl
open PySem PySem.Spec PyProof.Rows L2
section
variable [TJ]
def liftA (K : PySem.W.Frag) (T : TAp) : TA := fun σ H R => ∃ (G F : Hp) (ρ : Ro) (Q : List D → Ro → Prop), Sim K G F H σ ρ ∧ T ρ Q ∧ ∀ vs ds F' H' ρ', Up G F F' → Sim K G F' H' σ ρ' → Reps K F' vs ds → Q ds ρ' → R vs H'
theorem PPA.lift {X : Cx} {es : List Expr} {t : TA} {T : TAp} (h : PPA X es t T) : PPA X es (liftA X.K T) T :=
  ⟨⟨fun pos pins s σ H Q I ⟨G, F, ρ, Q', S, hT, k⟩ => h.pa.run pos pins s σ H Q I (h.snd G F H σ ρ Q' Q S hT k)⟩, fun G F H σ ρ Q R S hT k => ⟨G, F, ρ, Q, S, hT, k⟩⟩
def xLc1 (n : Nat) (gx : FX) (Ti : TAp) (g : TGp) (T : TAp) (vs : List Nat) : TXe := fun ρ xx => Ti ρ fun ds ρ1 => match ds with
  | [] => False
  | d :: _ => g d (wipeP ρ1 vs) fun ρ2 => T ρ2 fun as ρ3 => as.length = n ∧ gx as fun x => xx x (restore ρ1 ρ3 vs)
variable {X : Cx} {W : WX} {k : Nat} {f : Addr} {fd : FuncData} {ps : List Str} {n : Nat} {x : Str} {p pc pos : Pos} {e tg iter : Expr} {es : List Expr} {scope : Scope} {own : List (Str × Nat)} {wi : TI} {Ti : TAp} {Gp : TGp} {is : List Nat} {T : TAp}
theorem snd_lcX {K : PySem.W.Frag} {gx : FX} {vs : List Nat} (hi : SndI K wi Ti) (hg : SndG K (liftG K Gp is) Gp is) (hsub : ∀ i ∈ is, i ∈ vs) : SndX K W (tLcX wi (liftG K Gp is) (fun σ0 => tCallSD (spX K n gx) [] (fun _ cls d H' => W cls d σ0 H') (liftA K T)) vs) (xLc1 n gx Ti Gp T vs) := fun G F H σ ρ xx R S h hx =>
  hi G F H σ ρ _ _ S h fun J ds F1 H1 ρ1 u1 S1 J1 w1 => fun D hD => by
    match ds, J1, w1 with
    | [], _, w1 => exact w1.elim
    | d :: ds', J1, w1 =>
      have S0 := S1.newOwn hD .nil
      have S' := S0.drop
      obtain ⟨_, hFD, hGD, hnD, av, hHD, rD⟩ := S0.lastOwn
      have J' := J1 F1 _ (.refl _) S'.hF
      refine ⟨(J'.1 0 d rfl).1, fun y H'' hy => ?_⟩
      obtain ⟨F2, res⟩ := (J'.1 0 d rfl).2 y H'' hy
      have Sg := S'.guard hHD hnD
      obtain ⟨u2, S2, r2⟩ := Sg.res res
      have hGG : Same G (upd G D (.lst av)) := same_new hGD
      refine hg (upd G D (.lst av)) F2 H'' (wipe σ vs) (wipeP ρ1 vs) _ _ y _ (S2.wipe vs) r2 w1 fun F3 H3 σ3 ρ3 u3 S3 o3 l3 q3 => ?_
      have hl3 : σ3.length = σ.length := by rw [l3, wipe_length]
      have ho3 : ∀ j, j ∉ vs → σ3[j]? = (wipe σ vs)[j]? := fun j hj => o3 j fun z => hj (hsub j z)
      have hoσ : ∀ j, j ∉ vs → σ3[j]? = σ[j]? := fun j hj => by rw [ho3 j hj, wipe_get, if_neg (fun q => hj q.1)]
      refine ⟨upd G D (.lst av), F3, ρ3, _, S3, q3, fun ws as F4 H4 ρ4 u4 S4 r4 h4 => ?_⟩
      show spX K n gx (ws ++ []) H4 _ _
      rw [List.append_nil]
      refine ⟨F4, as, _, by rw [r4.length]; exact h4.1, S4.hF, r4, h4.2, fun x cls dd F' H' u hF hH xr q => ?_⟩
      have u5 : Up (upd G D (.lst av)) F4 F' := u.less S4.hG
      have S5 := S4.grow u5 hF hH (fun a o ha _ hf => u.isNone hf ha) u.out
      have up := ((u2.trans u3).trans u4).trans u5
      have S6 := S'.restore S5 hGG up.ex hl3 hoσ
      exact hx F' H' σ _ cls dd x (u1.trans (up.less hGG)) S6 xr q
theorem pxe_lcX {gx : FX} (hs : X.stack = X.env :: X.outer) (hf : X.env.frame = some X.env.locals) (hc : X.calm = true) (hN : X.N.Nodup) (tk : Takes X W) (hi : PPI X tg iter wi Ti) (ok : BlkOk X.N X.env.scope scope own)
    (hg : ∀ (s : Shared) (H : Hp) (C : Addr) (cl : List (Str × Addr)) (fp : List Addr), PTg (X.blk s H scope (compEnvC scope cl C X.env) fp) tg (liftG X.K Gp is) Gp is)
    (F1 : FnOk X.prog X.w X.K X.mg X.base (L2.CX X.prog X.w) k f fd ps (spX X.K n gx)) (hr : Room k X.A) (hgl : ∀ (s : Shared) (H : Hp) (C : Addr) (cl : List (Str × Addr)) (fp : List Addr), Gl (X.blk s H scope (compEnvC scope cl C X.env) fp) x) (hm : X.mg x = some (.ref f)) (hk : PySem.W.keepIn X.K (.ref f) = true) (hb : Binds X.K fd ps [])
    (ha : ∀ (s : Shared) (H : Hp) (C : Addr) (cl : List (Str × Addr)) (fp : List Addr) (pn : List (Addr × Obj)) (xe : Value → Shared → Prop), PPA ((X.blk s H scope (compEnvC scope cl C X.env) fp).tr pn xe) (e :: es) (liftA X.K T) T)
    (hsub : ∀ i ∈ is, i ∈ own.map (·.2) := by decide)
    (hdb : (x == ("__debug__" : Str)) = false := by decide) (he : ∀ env, starEach (e :: es) env = (false, eval e env) :: starEach es env := by intro _; rfl) (hpl : ∀ env, (backTo pc (starEach es env)).any (·.1) = false := by intro _; rfl) (hsx : ∀ y, foldedSetIterable iter X.env y = pure y := by intro _; rfl) :
    PXE X W (.ListComp (.Call (.Name x p) (e :: es) [] pc) [⟨tg, iter, [], 0⟩] scope pos) (tLcX wi (liftG X.K Gp is) (fun σ0 => tCallSD (spX X.K n gx) [] (fun _ cls d H' => W cls d σ0 H') (liftA X.K T)) (own.map (·.2))) (xLc1 n gx Ti Gp T (own.map (·.2))) :=
  ⟨pe_lcX hs hf hc hN tk hi.pi ok (fun s H C cl fp => (hg s H C cl fp).pg) F1 hr hgl hm hk hb (fun s H C cl fp pn xe => (ha s H C cl fp pn xe).pa) hdb he hpl hsx, snd_lcX hi.snd (hg X.s_0 (fun _ => none) 0 [] []).snd hsub⟩
end
end Pl
namespace Pl
open PySem PySem.Spec PyProof.Rows L2
variable {X : Cx} {W : WX} {o e : Expr} {to te : TE} {Xo : TXe} {Te : TEp}
theorem pxe_index {ap cp : Pos} (hu : X.A.units + 65 < cLine) (ho : PXE X W o to Xo) (he : PPE X e te Te)
    (hbase : attributeBase o "index" X.env (eval o X.env) = eval o X.env := by rfl)
    (hfew : ((backTo cp (starEach [e] X.env)).all (fun x => !x.1) && (backToKw cp (keywordEach [] X.env)).all (fun x => x.1.isSome)
      && decide ([e].length + ([] : List Keyword).length + (if ([] : List Keyword).isEmpty then 0 else 1) < 30)) = true := by rfl)
    (hline : (ap.endLine == cp.line) = true := by rfl) (hs : starEach [e] X.env = (false, eval e X.env) :: starEach [] X.env := by rfl) :
    PXE X W (.Call (.Attribute o "index" ap) [e] [] cp) (tBM X.K "list" (rIndexD X.K) to (tCons te tNil)) Xo := ⟨pe_bm PySem.F.plainAttrs_list PySem.F.slot_list_index PySem.F.type_list_index (mt_indexD hu) ho.pe (pa_cons he.pe pa_nil hs) hbase hfew hline hs rfl, fun G F H σ ρ xx R S hT hx => ho.snd G F H σ ρ xx _ S hT hx⟩
end Pl
namespace Pl
open PySem PySem.Spec PyProof.Rows L2
def row (c : Bool) (s : Int) (ns : List Int) (i : Int) : List Int := if c = true then reach s ns i else reachF s ns i
def firstIx (x : Int) : List Int → Nat
  | [] => 0
  | y :: r => if y = x then 0 else firstIx x r + 1
theorem firstIx_at {x : Int} : ∀ {l : List Int}, x ∈ l → l[firstIx x l]? = some x
  | [], h => by simp at h
  | y :: r, h => by
    unfold firstIx
    by_cases e : y = x
    · rw [if_pos e]; simp [e]
    · rw [if_neg e, List.getElem?_cons_succ]
      exact firstIx_at (by
        rcases List.mem_cons.mp h with q | q
        · exact absurd q.symm e
        · exact q)
theorem firstIx_no {x y : Int} : ∀ {l : List Int} {m : Nat}, m < firstIx x l → l[m]? = some y → y ≠ x
  | [], m, h, _ => by simp [firstIx] at h
  | z :: r, m, h, e => by
    unfold firstIx at h
    by_cases q : z = x
    · rw [if_pos q] at h; exact absurd h (Nat.not_lt_zero _)
    · rw [if_neg q] at h
      cases m with
      | zero =>
        have e' : z = y := (by simpa using e)
        rw [← e']; exact q
      | succ m =>
        have h' : m < firstIx x r := (by omega)
        have e' : r[m]? = some y := (by simpa using e)
        exact firstIx_no h' e'
def Wn (w : D) (c : Bool) (s : Int) : Prop := w = windD c s ∨ w = .lst [.str (wordS c), .int s]
end Pl
namespace Pl
open PySem PySem.Spec PyProof.Rows L2
def g__law_winds : FB := fun xs ds C => ∃ n size, n ≤ 10000000000 ∧ Bx n xs ∧ ds = [.int size] ∧ 0 ≤ size ∧ size ≤ 100 ∧ ∀ a ws zs, (ws.length : Int) ≤ size → (∀ w ∈ ws, 0 ≤ w.2 ∧ w.2 < 1000000000) → Bx (n + 1000) zs → C (.own a (windsD ws)) zs
theorem rd__law_winds : ∀ a xs ds C, ds.length + 1 = 2 → g__law_winds xs ds C → T__law_winds (g_take 100000000000000) g__law_slope { nx := fun ρ => ∃ ys, ρ[0]? = some (some (.own a ys)) ∧ C (.val .non) ys, rt := fun c ρ => ∃ ys, ρ[0]? = some (some (.own a ys)) ∧ C c ys } (startB N__law_winds a xs ds) := by
  rintro a xs ds C - ⟨n, size, hn, hB, rfl, hs0, hs, hC⟩
  refine ⟨xs, rfl, rfl, n, size + 1, by omega, hB, rfl, by omega, by omega, fun many ys q1 q2 q3 => ?_⟩
  refine ⟨by show (-(2 ^ 62) : Int) ≤ many; omega, by show many < (2 ^ 62 : Int); omega, ?_⟩
  refine lcW_inv (fun ds acc ρ => ∃ (ws : List Wd) (zs : List D), (ds.length : Int) + ws.length = many ∧ acc = windsD ws ∧ (∀ w ∈ ws, 0 ≤ w.2 ∧ w.2 < 1000000000) ∧ Bx (n + 2 + 6 * ws.length) zs ∧ ρ = [some (.own a zs), some (.val (.int size)), none]) (fun x r acc ρ K hK hI => ?_) (fun acc ρ hI => ?_) _ _ _ ⟨[], ys, by simp [rangeD]; omega, rfl, by simp, q3, rfl⟩
  · obtain ⟨ws, zs, h1, rfl, h3, h4, rfl⟩ := hI
    have h1' : ((r.length + 1 : Nat) : Int) + ws.length = many := h1
    refine ⟨by show (2 : Nat) ≤ sizeLine; decide, zs, rfl, rfl, _, 2, by omega, h4, rfl, by decide, by decide, fun b zs1 b1 b2 b3 => ?_⟩
    obtain ⟨v, hv⟩ := atI_below (xs := [D.str "cut", .str "fill"]) b1 b2
    refine ⟨v, hv, zs1, rfl, rfl, _, by omega, b3, rfl, fun s zs2 s0 s1 s3 => ⟨by show (2 : Nat) ≤ sizeLine; decide, small1000 (by rw [windsD_len]; omega), ?_⟩⟩
    obtain ⟨c, rfl⟩ : ∃ c, v = .str (wordS c) := by
      have := mem_of_atI hv
      simp at this
      rcases this with e | e
      · exact ⟨true, e⟩
      · exact ⟨false, e⟩
    refine hK _ _ ⟨ws ++ [(c, s)], zs2, by simp; omega, ?_, fun w hw => ?_, s3.mono (by simp; omega), rfl⟩
    · unfold windsD; rw [List.map_append]; rfl
    · rcases List.mem_append.mp hw with hw | hw
      · exact h3 w hw
      · rw [List.mem_singleton.mp hw]; exact ⟨s0, s1⟩
  · obtain ⟨ws, zs, h1, rfl, h3, h4, rfl⟩ := hI
    have h1 : (0 : Int) + ws.length = many := h1
    exact fun p => ⟨zs, rfl, hC p ws zs (by omega) h3 (h4.mono (by omega))⟩
end Pl
namespace Pl
open PySem PySem.Spec PyProof.Rows L2
abbrev N_rises : List Str := [("one" : Str), ("other" : Str), ("here" : Str), ("there" : Str)]
def T_rises : TSp :=
  (pSeq (pIfS (pTest (pOp fNe (pLenO 0) (pLenO 1)))
    pNever
    pNext)
    (pRet (pVal (pCB fTup (pCons (pLc (jZ2 (pCons (pVar 0) (pCons (pVar 1) pNil))) (hTup 2 (hCons (hName 2) (hCons (hName 3) hNil))) pYes (pOp fSub (pVar 3) (pVar 2)) [2, 3]) pNil)))))
abbrev N_gaps : List Str := [("one" : Str), ("other" : Str), ("rise" : Str)]
def T_gaps (g_rises : FA) : TSp :=
  (pRet (pLcO (jSeq (pFrz (pCallA 2 g_rises (pCons (pVar 0) (pCons (pVar 1) pNil))))) (hName 2) pYes (pCB fAbs (pCons (pVar 2) pNil)) [2]))
abbrev N_width : List Str := [("one" : Str), ("other" : Str)]
def T_width (g_gaps : FA) : TSp :=
  (pRet (pVal (pCB (fBest max) (pCons (pFrz (pCallA 2 g_gaps (pCons (pVar 0) (pCons (pVar 1) pNil)))) pNil))))
abbrev N_is_below : List Str := [("one" : Str), ("other" : Str)]
def T_is_below (g_rises : FA) : TSp :=
  (pRet (pVal (pOp fGe (pCB (fBest min) (pCons (pFrz (pCallA 2 g_rises (pCons (pVar 0) (pCons (pVar 1) pNil)))) pNil)) (pC (.int 0)))))
abbrev N_widths : List Str := [("one" : Str), ("other" : Str), ("almanac" : Str), ("here" : Str), ("there" : Str)]
def T_widths (g_days : FA) (g_width : FA) : TSp :=
  (pRet (pLcO (jZ2 (pCons (pFrz (pCallA 2 g_days (pCons (pVar 0) (pCons (pVar 2) pNil)))) (pCons (pFrz (pCallA 2 g_days (pCons (pVar 1) (pCons (pVar 2) pNil)))) pNil))) (hTup 2 (hCons (hName 3) (hCons (hName 4) hNil))) pYes (pFrz (pCallA 2 g_width (pCons (pVar 3) (pCons (pVar 4) pNil)))) [3, 4]))
end Pl
namespace Pl
open PySem PySem.Spec PyProof.Rows L2
def difL (a b : List Int) : List Int := List.zipWith (fun x y => y - x) a b
def widL (a b : List Int) : Int := maxOf ((difL a b).map iabs)
theorem difL_len {a b : List Int} (h : a.length = b.length) : (difL a b).length = a.length := by unfold difL; simp; omega
theorem difL_ne {a b : List Int} (h : a.length = b.length) (hne : a ≠ []) : difL a b ≠ [] := ne_len (difL_len h) hne
def g_rises : FA := fun ds C => ∃ d a e b, ds = [d, e] ∧ Sq d a ∧ Sq e b ∧ a.length = b.length ∧ a.length ≤ 1000 ∧ C (.val (tD (difL a b)))
theorem rd_rises : ∀ ds C, ds.length = 2 → g_rises ds C → T_rises { nx := fun _ => C (.val .non), rt := fun c _ => C c } (startA N_rises ds) := by
  rintro ds C - ⟨d, a, e, b, rfl, hd, he, hl, ha, hC⟩
  have key : lcW [2, 3] (hTup 2 (hCons (hName 2) (hCons (hName 3) hNil))) pYes (pOp fSub (pVar 3) (pVar 2)) (fun acc ρ2 => C (.val (.tup acc))) (zipD (dI a) (dI b)) [] [some (.val d), some (.val e), none, none] := by
    refine lcW_z2 (h := fun x y => .int (y - x)) (fun x _ y _ K hK => ⟨rfl, rfl, hK _ rfl⟩) ha ?_
    rw [zip_int]; exact hC
  have hb : (!(D.int ((dI a).length : Nat)).eqv (.int ((dI b).length : Nat))) = false := by rw [eqv_int, ints_len, ints_len, hl]; simp
  rcases hd with rfl | rfl <;> rcases he with rfl | rfl <;> exact ⟨sh_int _, sh_int _, ifF hb key⟩
def g_gaps : FA := fun ds C => ∃ d a e b, ds = [d, e] ∧ Sq d a ∧ Sq e b ∧ a.length = b.length ∧ a.length ≤ 1000 ∧ ∀ p, C (.own p (dI ((difL a b).map iabs)))
theorem rd_gaps : ∀ ds C, ds.length = 2 → g_gaps ds C → T_gaps g_rises { nx := fun _ => C (.val .non), rt := fun c _ => C c } (startA N_gaps ds) := by
  rintro ds C - ⟨d, a, e, b, rfl, hd, he, hl, ha, hC⟩
  refine ⟨rfl, d, a, e, b, rfl, hd, he, hl, ha, ?_⟩
  refine lcW_ints (h := fun x => .int (iabs x)) (fun x _ K hK => hK _ rfl) (by rw [difL_len hl]; exact ha) fun p => ?_
  have := hC p
  unfold dI at this
  rw [List.map_map] at this
  exact this
def g_width : FA := fun ds C => ∃ d a e b, ds = [d, e] ∧ Sq d a ∧ Sq e b ∧ a.length = b.length ∧ a ≠ [] ∧ a.length ≤ 1000 ∧ C (.val (.int (widL a b)))
theorem rd_width : ∀ ds C, ds.length = 2 → g_width ds C → T_width g_gaps { nx := fun _ => C (.val .non), rt := fun c _ => C c } (startA N_width ds) := by
  rintro ds C - ⟨d, a, e, b, rfl, hd, he, hl, hne, ha, hC⟩
  refine ⟨rfl, d, a, e, b, rfl, hd, he, hl, ha, fun p => ?_⟩
  obtain ⟨n, r, h1, h2⟩ := maxOf_cons (l := (difL a b).map iabs) (map_ne (difL_ne hl hne))
  refine ⟨n, r, by rw [h1], ?_⟩
  rw [← h2]; exact hC
def g_is_below : FA := fun ds C => ∃ d a e b, ds = [d, e] ∧ Sq d a ∧ Sq e b ∧ a.length = b.length ∧ a ≠ [] ∧ a.length ≤ 1000 ∧ C (.val (.bl (decide (0 ≤ minOf (difL a b)))))
theorem rd_is_below : ∀ ds C, ds.length = 2 → g_is_below ds C → T_is_below g_rises { nx := fun _ => C (.val .non), rt := fun c _ => C c } (startA N_is_below ds) := by
  rintro ds C - ⟨d, a, e, b, rfl, hd, he, hl, hne, ha, hC⟩
  refine ⟨rfl, d, a, e, b, rfl, hd, he, hl, ha, ?_⟩
  obtain ⟨n, r, h1, h2⟩ := minOf_cons (l := difL a b) (difL_ne hl hne)
  refine ⟨n, r, by rw [h1], ?_⟩
  rw [← h2]; exact hC
def widsL (a b : List Int) (ws : List Wd) : List Int := List.zipWith widL (daysL a ws) (daysL b ws)
theorem lcW_zr {vs : List Nat} {g : TGp} {te : TEp} {Q : List D → Ro → Prop} {h : List Int → List Int → D} {ρ : Ro} : ∀ (p q : List (List Int)) (acc : List D), (∀ x ∈ p, ∀ y ∈ q, ElemOk vs g te ρ (.tup [tD x, tD y]) (h x y)) → acc.length + p.length ≤ 1000 → Q (acc ++ List.zipWith h p q) ρ → lcW vs g pYes te Q (zipD (p.map tD) (q.map tD)) acc ρ
  | [], q, acc, _, _, hQ => by
    have hQ : Q (acc ++ []) ρ := hQ
    rw [List.append_nil] at hQ
    exact hQ
  | x :: p, [], acc, _, _, hQ => by
    have hQ : Q (acc ++ []) ρ := hQ
    rw [List.append_nil] at hQ
    exact hQ
  | x :: p, y :: q, acc, hs, hl, hQ => by
    have hl' : acc.length + (p.length + 1) ≤ 1000 := hl
    refine hs x (by simp) y (by simp) _ fun ρ4 e => ⟨small1000 (by omega), ?_⟩
    rw [e]
    refine lcW_zr (h := h) p q _ (fun u hu v hv => hs u (by simp [hu]) v (by simp [hv])) (by rw [List.length_append]; show acc.length + 1 + p.length ≤ 1000; omega) ?_
    rw [List.append_assoc]
    exact hQ
theorem daysL_mem : ∀ {ws : List Wd} {l r : List Int}, r ∈ daysL l ws → r.length = l.length
  | [], l, r, h => by
    have h : r ∈ [l] := h
    rw [List.mem_singleton.mp h]
  | w :: ws, l, r, h => by
    have h : r ∈ l :: daysL (blW l w) ws := h
    rcases List.mem_cons.mp h with e | h
    · rw [e]
    · rw [daysL_mem h, blW_len]
theorem zip_intL {f : List Int → List Int → Int} : ∀ {a b : List (List Int)}, List.zipWith (fun x y => D.int (f x y)) a b = dI (List.zipWith f a b)
  | [], _ => rfl
  | _ :: _, [] => rfl
  | x :: a, y :: b => by
    show D.int (f x y) :: List.zipWith (fun x y => D.int (f x y)) a b = D.int (f x y) :: dI (List.zipWith f a b)
    rw [zip_intL]
def g_widths : FA := fun ds C => ∃ d a e b am ws, ds = [d, e, am] ∧ Sq d a ∧ Sq e b ∧ Am am ws ∧ a.length = b.length ∧ a ≠ [] ∧ a.length ≤ 1000 ∧ ws.length ≤ 900 ∧ ∀ p, C (.own p (dI (widsL a b ws)))
theorem rd_widths : ∀ ds C, ds.length = 3 → g_widths ds C → T_widths g_days g_width { nx := fun _ => C (.val .non), rt := fun c _ => C c } (startA N_widths ds) := by
  rintro ds C - ⟨d, a, e, b, am, ws, rfl, hd, he, hm, hl, hne, ha, hw, hC⟩
  have hne' : b ≠ [] := ne_len hl.symm hne
  refine ⟨rfl, d, a, am, ws, rfl, hd, hm, hne, ha, hw, fun p => ?_⟩
  refine ⟨rfl, e, b, am, ws, rfl, he, hm, hne', by omega, hw, fun q => ?_⟩
  refine lcW_zr (h := fun x y => .int (widL x y)) (daysL a ws) (daysL b ws) [] (fun x hx y hy K hK => ⟨rfl, rfl, rfl, _, x, _, y, rfl, .inl rfl, .inl rfl, ?_, ?_, ?_, hK _ rfl⟩) (by rw [daysL_len]; show 0 + (ws.length + 1) ≤ 1000; omega) fun r => ?_
  · rw [daysL_mem hx, daysL_mem hy, hl]
  · exact ne_len (daysL_mem hx) hne
  · rw [daysL_mem hx]; exact ha
  · rw [List.nil_append, zip_intL]; exact hC r
theorem widsL_len (a b : List Int) (ws : List Wd) : (widsL a b ws).length = ws.length + 1 := by unfold widsL; simp [daysL_len]
end Pl
namespace Pl
open PySem PySem.Spec PyProof.Rows L2
def All2 (Pd : D → Int → Prop) : List D → List Int → Prop
  | [], [] => True
  | d :: ds, y :: ys => Pd d y ∧ All2 Pd ds ys
  | _, _ => False
theorem All2.length {Pd : D → Int → Prop} : ∀ {ds : List D} {ys : List Int}, All2 Pd ds ys → ys.length = ds.length
  | [], [], _ => rfl
  | _ :: ds, _ :: ys, h => by simp [All2.length h.2]
  | [], _ :: _, h => h.elim
  | _ :: _, [], h => h.elim
theorem All2.mem {Pd : D → Int → Prop} : ∀ {ds : List D} {ys : List Int} {y : Int}, All2 Pd ds ys → y ∈ ys → ∃ d ∈ ds, Pd d y
  | [], [], _, _, h => by simp at h
  | d :: ds, z :: ys, y, h, hy => by
    rcases List.mem_cons.mp hy with e | hy
    · subst e; exact ⟨d, by simp, h.1⟩
    · obtain ⟨e, he, p⟩ := All2.mem h.2 hy
      exact ⟨e, by simp [he], p⟩
  | [], _ :: _, _, h, _ => h.elim
  | _ :: _, [], _, h, _ => h.elim
theorem lcW_draw {vs : List Nat} {g : TGp} {te : TEp} {Q : List D → Ro → Prop} (ρf : List D → Ro) (k N : Nat) (Pre : D → Prop) (Pd : D → Int → Prop)
    (hs : ∀ (d : D) (zs : List D) (n : Nat) (K : D → Ro → Prop), Pre d → Bx n zs → n ≤ N → (∀ (y : Int) (zs' : List D) (ρ4 : Ro), Bx (n + k) zs' → Pd d y → restore (ρf zs) ρ4 vs = ρf zs' → K (.int y) ρ4) → g d (wipeP (ρf zs) vs) fun ρ2 => te ρ2 K) :
    ∀ (ds acc : List D) (n : Nat) (zs : List D), Bx n zs → n + k * ds.length ≤ N → (∀ d ∈ ds, Pre d) → acc.length + ds.length ≤ 1000 → (∀ (out : List Int) (zs' : List D), All2 Pd ds out → Bx (n + k * ds.length) zs' → Q (acc ++ dI out) (ρf zs')) → lcW vs g pYes te Q ds acc (ρf zs)
  | [], acc, n, zs, hB, hn, _, _, hQ => by
    have hQ : Q (acc ++ []) (ρf zs) := hQ [] zs trivial hB
    rw [List.append_nil] at hQ
    exact hQ
  | d :: ds, acc, n, zs, hB, hn, hp, hl, hQ => by
    have hl' : acc.length + (ds.length + 1) ≤ 1000 := hl
    have e1 : k * (d :: ds).length = k + k * ds.length := by rw [List.length_cons, Nat.mul_add, Nat.mul_one]; omega
    rw [e1] at hn hQ
    refine hs d zs n _ (hp d (by simp)) hB (by omega) fun y zs' ρ4 hB' hy e => ⟨small1000 (by omega), ?_⟩
    rw [e]
    refine lcW_draw ρf k N Pre Pd hs ds _ (n + k) zs' hB' (by omega) (fun x hx => hp x (by simp [hx])) (by rw [List.length_append]; show acc.length + 1 + ds.length ≤ 1000; omega) fun out zs2 ho hB2 => ?_
    rw [List.append_assoc]
    exact hQ (y :: out) zs2 ⟨hy, ho⟩ (by rw [← Nat.add_assoc]; exact hB2)
theorem Bx.le {n m : Nat} {xs : List D} (h : Bx n xs) (hm : n ≤ m) : Bx m xs := h.mono hm
end Pl
namespace Pl
open PySem PySem.Spec PyProof.Rows L2
abbrev EA (C : Cell → Prop) : PEnds := { nx := fun _ => C (.val .non), rt := fun c _ => C c }
end Pl
namespace Pl
open PySem PySem.Spec PyProof.Rows L2
def fs : List Wd → Int → Option Bool
  | [], _ => none
  | w :: ws, t => if w.2 ≤ t then some w.1 else fs ws t
end Pl
namespace Pl
open PySem PySem.Spec PyProof.Rows L2
def AmW (a : D) (ws : List Wd) : Prop := ∃ ps : List (D × Wd), (a = .lst (ps.map Prod.fst) ∨ a = .tup (ps.map Prod.fst)) ∧ (∀ p ∈ ps, Wn p.1 p.2.1 p.2.2) ∧ ps.map Prod.snd = ws
theorem Am.w {a : D} {ws : List Wd} (h : Am a ws) : AmW a ws := by
  refine ⟨ws.map fun w => (windD w.1 w.2, w), ?_, fun p hp => ?_, by rw [List.map_map]; exact List.map_id' ws⟩
  · rcases h with rfl | rfl
    · exact .inl (by rw [List.map_map]; rfl)
    · exact .inr (by rw [List.map_map]; rfl)
  · obtain ⟨w, _, rfl⟩ := List.mem_map.mp hp
    exact .inl rfl
theorem AmW.lst (ws : List Wd) : AmW (.lst (windsD ws)) ws := Am.w (.inl rfl)
end Pl
namespace Pl
open PySem PySem.Spec PyProof.Rows L2
abbrev vW (ws : List Wd) : Option Cell := some (.val (.lst (windsD ws)))
abbrev vo (a : Addr) (zs : List D) : Option Cell := some (.own a zs)
end Pl
namespace Pl
open PySem PySem.Spec PyProof.Rows L2
abbrev EX (C : XD → Prop) : XP := fun x _ => C x
abbrev E0 : PEnds := { nx := fun _ => False, rt := fun _ _ => False }
end Pl
namespace Pl
open PySem PySem.Spec PyProof.Rows L2
abbrev N_widest : List Str := [("one" : Str), ("other" : Str)]
def T_widest (g_gaps : FA) (g_width : FA) : TSp :=
  (pRet (pVal (pIndex (pFrz (pCallA 2 g_gaps (pCons (pVar 0) (pCons (pVar 1) pNil)))) (pFrz (pCallA 2 g_width (pCons (pVar 0) (pCons (pVar 1) pNil)))))))
abbrev N__law_near_k50 : List Str := [("_law_box_here" : Str), ("_law_hill" : Str), ("_law_way" : Str), ("_law_rise" : Str), ("_law_level" : Str)]
def T__law_near_k50 (g__law_take : FB) : TSp :=
  (pSeq (pAsg (pTup (pCons (pFrz (pCallB 0 2 g__law_take (pCons (pC (.int 4)) pNil))) (pCons (pFrz (pCallB 0 2 g__law_take (pCons (pC (.int 9)) pNil))) pNil))) (hTup 2 (hCons (hName 2) (hCons (hName 3) hNil))))
    (pSeq (pIfS (pTest (pOp fEq (pVar 2) (pC (.int 0))))
    (pRet (pVal (pCB fTup (pCons (pLc (jSeq (pVar 1)) (hName 4) pYes (pOp fAdd (pVar 4) (pVar 3)) [4]) pNil))))
    pNext)
    (pSeq (pIfS (pTest (pOp fEq (pVar 2) (pC (.int 1))))
    (pRet (pVal (pCB fTup (pCons (pLc (jSeq (pVar 1)) (hName 4) pYes (pOp fAdd (pVar 4) (pFrz (pCallB 0 2 g__law_take (pCons (pC (.int 7)) pNil)))) [4]) pNil))))
    pNext)
    (pSeq (pIfS (pTest (pOp fEq (pVar 2) (pC (.int 2))))
    (pRet (pVal (pCB fTup (pCons (pLc (jSeq (pVar 1)) (hName 4) pYes (pOp fAdd (pVar 4) (pOp fMulI (pOp fSub (pFrz (pCallB 0 2 g__law_take (pCons (pC (.int 60)) pNil))) (pC (.int 30))) (pCB fInt1 (pCons (pOp fEq (pFrz (pCallB 0 2 g__law_take (pCons (pC (.int 3)) pNil))) (pC (.int 0))) pNil)))) [4]) pNil))))
    pNext)
    (pRet (pVal (pCB fTup (pCons (pVar 1) pNil))))))))
abbrev N__law_refused : List Str := [("_law_here" : Str), ("_law_two" : Str), ("_law_way" : Str), ("_law_caught" : Str), ("error" : Str)]
def T__law_refused (g_width : FA) (g_widest : FA) (g_is_below : FA) (g_widths : FA) (gx_width : FX) (gx_widest : FX) (gx_is_below : FX) (gx_widths : FX) : TSp :=
  (pSeq (pSet 3 (pVal (pC .non)))
    (pTryIs 4 3 "ValueError"
    (xIfS (pTest (pOp fEq (pVar 2) (pC (.int 0))))
    (xOr (pDrop (pFrz (pCallA 2 g_width (pCons (pVar 0) (pCons (pVar 1) pNil)))))
    (xE (xCall 2 gx_width (pCons (pVar 0) (pCons (pVar 1) pNil)))))
    (xIfS (pTest (pOp fEq (pVar 2) (pC (.int 1))))
    (xOr (pDrop (pFrz (pCallA 2 g_widest (pCons (pVar 0) (pCons (pVar 1) pNil)))))
    (xE (xCall 2 gx_widest (pCons (pVar 0) (pCons (pVar 1) pNil)))))
    (xIfS (pTest (pOp fEq (pVar 2) (pC (.int 2))))
    (xOr (pDrop (pFrz (pCallA 2 g_is_below (pCons (pVar 0) (pCons (pVar 1) pNil)))))
    (xE (xCall 2 gx_is_below (pCons (pVar 0) (pCons (pVar 1) pNil)))))
    (xOr (pDrop (pFrz (pCallA 3 g_widths (pCons (pVar 0) (pCons (pVar 1) (pCons (pLst pNil) pNil))))))
    (xE (xCall 3 gx_widths (pCons (pVar 0) (pCons (pVar 1) (pCons (pLst pNil) pNil)))))))))))
abbrev N_law : List Str := [("_law_script" : Str), ("_law_k" : Str), ("_law_box_here" : Str), ("_law_turn" : Str), ("_law_hill" : Str), ("_law_winds_here" : Str), ("_law_near_here" : Str), ("_law_mine" : Str), ("_law_its" : Str), ("_law_apart" : Str), ("_law_told" : Str), ("_law_due" : Str), ("_law_gust" : Str), ("_law_first" : Str), ("_law_last" : Str), ("_law_longer" : Str), ("_law_way" : Str)]
def T_law_1_1 (g__law_box : FA) : TSp :=
  (pSet 2 (pCallA 2 g__law_box (pCons (pVar 0) (pCons (pVar 1) pNil))))
def T_law_1_2_1 (g__law_dune : FB) (g__law_winds : FB) : TSp :=
  (pAsg (pTup (pCons (pFrz (pCallB 2 2 g__law_dune (pCons (pC (.int 12)) pNil))) (pCons (pFrz (pCallB 2 2 g__law_winds (pCons (pC (.int 10)) pNil))) pNil))) (hTup 2 (hCons (hName 4) (hCons (hName 5) hNil))))
def T_law_1_2_2 (g__law_near : FB) : TSp :=
  (pSet 6 (pCallB 2 2 g__law_near (pCons (pVar 4) pNil)))
def T_law_1_2_3 : TSp :=
  (pSet 9 (pVal (pLc (jZ2 (pCons (pVar 4) (pCons (pVar 6) pNil))) (hTup 2 (hCons (hName 7) (hCons (hName 8) hNil))) pYes (pCB fAbs (pCons (pOp fSub (pVar 7) (pVar 8)) pNil)) [7, 8])))
def T_law_1_2_4 (g_width : FA) : TSp :=
  (pSet 10 (pLstO (pCons (pFrz (pCallA 2 g_width (pCons (pVar 4) (pCons (pVar 6) pNil)))) (pCons (pFrz (pCallK 2 2 g_width [1, 0] (pCons (pCB fLst (pCons (pVar 4) pNil)) (pCons (pVar 6) pNil)))) pNil))))
def T_law_1_2_5 (g_widest : FA) : TSp :=
  (pSet 10 (pVal (pOp fAdd (pVar 10) (pLst (pCons (pFrz (pCallA 2 g_widest (pCons (pVar 4) (pCons (pVar 6) pNil)))) (pCons (pFrz (pCallK 2 2 g_widest [1, 0] (pCons (pVar 4) (pCons (pCB fLst (pCons (pVar 6) pNil)) pNil)))) pNil))))))
def T_law_1_2_6_1 : TSp :=
  (pRet (pVal (pC (.bl false))))
def T_law_1_2_6 (g__law_same : FA) : TSp :=
  (pIfS (pNot (pTest (pPeek (pFrz (pCallA 2 g__law_same (pCons (pVar 10) (pCons (pOp fAdd (pOp fRep (pLst (pCons (pCB (fBest max) (pCons (pVar 9) pNil)) pNil)) (pC (.int 2))) (pOp fRep (pLst (pCons (pIndex (pVar 9) (pCB (fBest max) (pCons (pVar 9) pNil))) pNil)) (pC (.int 2)))) pNil)))))))
    T_law_1_2_6_1
    pNext)
def T_law_1_2_7 : TSp :=
  (pSet 11 (pLstO (pCons (pCB fAll (pCons (pLc (jZ2 (pCons (pVar 4) (pCons (pVar 6) pNil))) (hTup 2 (hCons (hName 7) (hCons (hName 8) hNil))) pYes (pOp fLe (pVar 7) (pVar 8)) [7, 8]) pNil)) pNil)))
def T_law_1_2_8 : TSp :=
  (pAppend 11 (pCB fAll (pCons (pLc (jZ2 (pCons (pVar 4) (pCons (pVar 6) pNil))) (hTup 2 (hCons (hName 7) (hCons (hName 8) hNil))) pYes (pOp fGe (pVar 7) (pVar 8)) [7, 8]) pNil)))
def T_law_1_2_9_1 : TSp :=
  (pRet (pVal (pC (.bl false))))
def T_law_1_2_9 (g_is_below : FA) (g__law_same : FA) : TSp :=
  (pIfS (pNot (pTest (pPeek (pFrz (pCallA 2 g__law_same (pCons (pLst (pCons (pFrz (pCallA 2 g_is_below (pCons (pVar 4) (pCons (pVar 6) pNil)))) (pCons (pFrz (pCallK 2 2 g_is_below [1, 0] (pCons (pVar 4) (pCons (pCB fLst (pCons (pVar 6) pNil)) pNil)))) pNil))) (pCons (pVar 11) pNil)))))))
    T_law_1_2_9_1
    pNext)
def T_law_1_2_10 : TSp :=
  (pParC3 11 7 8 (pConsC (pLstO (pCons (pCB (fBest max) (pCons (pVar 9) pNil)) pNil)) (pConsC (pVal (pVar 4)) (pConsC (pVal (pVar 6)) pNilC))))
def T_law_1_2_11_1 (g__law_blown : FA) : TSp :=
  (pPar 7 8 (pCons (pFrz (pCallA 2 g__law_blown (pCons (pVar 7) (pCons (pVar 12) pNil)))) (pCons (pFrz (pCallA 2 g__law_blown (pCons (pVar 8) (pCons (pVar 12) pNil)))) pNil)))
def T_law_1_2_11_2 : TSp :=
  (pAppend 11 (pCB (fBest max) (pCons (pLc (jZ2 (pCons (pVar 7) (pCons (pVar 8) pNil))) (hTup 2 (hCons (hName 13) (hCons (hName 14) hNil))) pYes (pCB fAbs (pCons (pOp fSub (pVar 13) (pVar 14)) pNil)) [13, 14]) pNil)))
def T_law_1_2_11 (g__law_blown : FA) : TSp :=
  (pFor (jSeq (pVar 5)) (hName 12)
    (pSeq (T_law_1_2_11_1 g__law_blown)
    T_law_1_2_11_2))
def T_law_1_2_12 (g_widths : FA) : TSp :=
  (pSet 10 (pCallA 3 g_widths (pCons (pVar 4) (pCons (pVar 6) (pCons (pVar 5) pNil)))))
def T_law_1_2_13_1 : TSp :=
  (pRet (pVal (pC (.bl false))))
def T_law_1_2_13 (g_widths : FA) (g__law_same : FA) : TSp :=
  (pIfS (pNot (pTest (pPeek (pFrz (pCallA 2 g__law_same (pCons (pLst (pCons (pVar 10) (pCons (pFrz (pCallK 3 3 g_widths [2, 1, 0] (pCons (pCB fTup (pCons (pVar 5) pNil)) (pCons (pCB fLst (pCons (pVar 6) pNil)) (pCons (pVar 4) pNil))))) pNil))) (pCons (pLst (pCons (pVar 11) (pCons (pVar 11) pNil))) pNil)))))))
    T_law_1_2_13_1
    pNext)
def T_law_1_2_14 : TSp :=
  (pReverse 10)
def T_law_1_2_15 : TSp :=
  (pAppend 10 (pUn fNeg (pC (.int 1))))
def T_law_1_2_16_1 : TSp :=
  (pRet (pVal (pC (.bl false))))
def T_law_1_2_16 (g_widths : FA) (g__law_same : FA) : TSp :=
  (pIfS (pNot (pTest (pPeek (pFrz (pCallA 2 g__law_same (pCons (pFrz (pCallA 3 g_widths (pCons (pVar 4) (pCons (pVar 6) (pCons (pVar 5) pNil))))) (pCons (pVar 11) pNil)))))))
    T_law_1_2_16_1
    pNext)
def T_law_1_2_17 (g__law_take : FB) : TSp :=
  (pSet 15 (pVal (pOp fAdd (pVar 4) (pTup (pCons (pFrz (pCallB 2 2 g__law_take (pCons (pC (.int 9)) pNil))) pNil)))))
def T_law_1_2_18_1 : TSp :=
  (pRet (pVal (pC (.bl false))))
def T_law_1_2_18 (g__law_refused : FA) : TSp :=
  (pIfS (pNot (pTest (pCB fAll (pCons (pLc (jRng1 (pCons (pC (.int 4)) pNil)) (hName 16) pYes (pAndV (pFrz (pCallA 3 g__law_refused (pCons (pVar 4) (pCons (pVar 15) (pCons (pVar 16) pNil))))) (pFrz (pCallA 3 g__law_refused (pCons (pVar 15) (pCons (pVar 4) (pCons (pVar 16) pNil)))))) [16]) pNil))))
    T_law_1_2_18_1
    pNext)
def T_law_1_2 (g_width : FA) (g_widest : FA) (g_is_below : FA) (g_widths : FA) (g__law_take : FB) (g__law_same : FA) (g__law_blown : FA) (g__law_dune : FB) (g__law_winds : FB) (g__law_near : FB) (g__law_refused : FA) : TSp :=
  (pFor (jRng1 (pCons (pC (.int 2)) pNil)) (hName 3)
    (pSeq (T_law_1_2_1 g__law_dune g__law_winds)
    (pSeq (T_law_1_2_2 g__law_near)
    (pSeq T_law_1_2_3
    (pSeq (T_law_1_2_4 g_width)
    (pSeq (T_law_1_2_5 g_widest)
    (pSeq (T_law_1_2_6 g__law_same)
    (pSeq T_law_1_2_7
    (pSeq T_law_1_2_8
    (pSeq (T_law_1_2_9 g_is_below g__law_same)
    (pSeq T_law_1_2_10
    (pSeq (T_law_1_2_11 g__law_blown)
    (pSeq (T_law_1_2_12 g_widths)
    (pSeq (T_law_1_2_13 g_widths g__law_same)
    (pSeq T_law_1_2_14
    (pSeq T_law_1_2_15
    (pSeq (T_law_1_2_16 g_widths g__law_same)
    (pSeq (T_law_1_2_17 g__law_take)
    (T_law_1_2_18 g__law_refused)))))))))))))))))))
def T_law_1 (g_width : FA) (g_widest : FA) (g_is_below : FA) (g_widths : FA) (g__law_box : FA) (g__law_take : FB) (g__law_same : FA) (g__law_blown : FA) (g__law_dune : FB) (g__law_winds : FB) (g__law_near : FB) (g__law_refused : FA) : TSp :=
  (pFor (jRng1 (pCons (pOp fAdd (pC (.int 1)) (pCB fMin2 (pCons (pC (.int 2)) (pCons (pLenO 0) pNil)))) pNil)) (hName 1)
    (pSeq (T_law_1_1 g__law_box)
    (T_law_1_2 g_width g_widest g_is_below g_widths g__law_take g__law_same g__law_blown g__law_dune g__law_winds g__law_near g__law_refused)))
def T_law_2 : TSp :=
  (pRet (pVal (pC (.bl true))))
def T_law (g_width : FA) (g_widest : FA) (g_is_below : FA) (g_widths : FA) (g__law_box : FA) (g__law_take : FB) (g__law_same : FA) (g__law_blown : FA) (g__law_dune : FB) (g__law_winds : FB) (g__law_near : FB) (g__law_refused : FA) : TSp :=
  (pSeq (T_law_1 g_width g_widest g_is_below g_widths g__law_box g__law_take g__law_same g__law_blown g__law_dune g__law_winds g__law_near g__law_refused)
    T_law_2)
def TX_width (g_gaps : FA) (gx_gaps : FX) : TXs :=
  (xOr (pRet (pVal (pCB (fBest max) (pCons (pFrz (pCallA 2 g_gaps (pCons (pVar 0) (pCons (pVar 1) pNil)))) pNil))))
    (xE (xCall 2 gx_gaps (pCons (pVar 0) (pCons (pVar 1) pNil)))))
def TX_widest (g_gaps : FA) (g_width : FA) (gx_gaps : FX) : TXs :=
  (xOr (pRet (pVal (pIndex (pFrz (pCallA 2 g_gaps (pCons (pVar 0) (pCons (pVar 1) pNil)))) (pFrz (pCallA 2 g_width (pCons (pVar 0) (pCons (pVar 1) pNil)))))))
    (xE (xCall 2 gx_gaps (pCons (pVar 0) (pCons (pVar 1) pNil)))))
def TX_is_below (g_rises : FA) (gx_rises : FX) : TXs :=
  (xOr (pRet (pVal (pOp fGe (pCB (fBest min) (pCons (pFrz (pCallA 2 g_rises (pCons (pVar 0) (pCons (pVar 1) pNil)))) pNil)) (pC (.int 0)))))
    (xE (xCall 2 gx_rises (pCons (pVar 0) (pCons (pVar 1) pNil)))))
def TX_widths (g_days : FA) (g_width : FA) (gx_width : FX) : TXs :=
  (xOr (pRet (pLcO (jZ2 (pCons (pFrz (pCallA 2 g_days (pCons (pVar 0) (pCons (pVar 2) pNil)))) (pCons (pFrz (pCallA 2 g_days (pCons (pVar 1) (pCons (pVar 2) pNil)))) pNil))) (hTup 2 (hCons (hName 3) (hCons (hName 4) hNil))) pYes (pFrz (pCallA 2 g_width (pCons (pVar 3) (pCons (pVar 4) pNil)))) [3, 4]))
    (xE (xLc1 2 gx_width (jZ2 (pCons (pFrz (pCallA 2 g_days (pCons (pVar 0) (pCons (pVar 2) pNil)))) (pCons (pFrz (pCallA 2 g_days (pCons (pVar 1) (pCons (pVar 2) pNil)))) pNil))) (hTup 2 (hCons (hName 3) (hCons (hName 4) hNil))) (pCons (pVar 3) (pCons (pVar 4) pNil)) [3, 4])))
def TX_gaps (g_rises : FA) (gx_rises : FX) : TXs :=
  (xOr (pRet (pLcO (jSeq (pFrz (pCallA 2 g_rises (pCons (pVar 0) (pCons (pVar 1) pNil))))) (hName 2) pYes (pCB fAbs (pCons (pVar 2) pNil)) [2]))
    (xE (xCall 2 gx_rises (pCons (pVar 0) (pCons (pVar 1) pNil)))))
def TX_rises : TXs :=
  (xSeq (xIfS (pTest (pOp fNe (pLenO 0) (pLenO 1)))
    xRaise0
    xNext)
    (xOk (pRet (pVal (pCB fTup (pCons (pLc (jZ2 (pCons (pVar 0) (pCons (pVar 1) pNil))) (hTup 2 (hCons (hName 2) (hCons (hName 3) hNil))) pYes (pOp fSub (pVar 3) (pVar 2)) [2, 3]) pNil))))))
theorem maxOf_mem {l : List Int} (h : l ≠ []) : maxOf l ∈ l := by
  obtain ⟨n, r, e, h2⟩ := maxOf_cons h
  rw [h2, e]
  clear h2 e
  induction r generalizing n with
  | nil => simp
  | cons x r ih =>
    show (r.foldl max (max n x)) ∈ _
    have := ih (max n x)
    rcases List.mem_cons.mp this with e | e
    · rw [e]
      by_cases h : n ≤ x
      · rw [Int.max_eq_right h]; simp
      · rw [Int.max_eq_left (by omega)]; simp
    · simp [e]
def apL (a b : List Int) : List Int := (difL a b).map iabs
theorem apL_ne {a b : List Int} (h : a.length = b.length) (hne : a ≠ []) : apL a b ≠ [] := map_ne (difL_ne h hne)
theorem iabs_symm (x y : Int) : iabs (x - y) = iabs (y - x) := by unfold iabs; split <;> split <;> omega
theorem apZ : ∀ {a b : List Int}, List.zipWith (fun x y => D.int (iabs (x - y))) a b = dI (apL a b)
  | [], _ => rfl
  | _ :: _, [] => rfl
  | x :: a, y :: b => by
    show D.int (iabs (x - y)) :: List.zipWith (fun x y => D.int (iabs (x - y))) a b = D.int (iabs (y - x)) :: dI (apL a b)
    rw [apZ, iabs_symm]
theorem apL_symm : ∀ {a b : List Int}, apL a b = apL b a
  | [], [] => rfl
  | [], _ :: _ => rfl
  | _ :: _, [] => rfl
  | x :: a, y :: b => by
    show iabs (y - x) :: apL a b = iabs (x - y) :: apL b a
    rw [apL_symm, iabs_symm]
theorem widL_symm {a b : List Int} : widL a b = widL b a := by
  show maxOf (apL a b) = maxOf (apL b a)
  rw [apL_symm]
theorem wid_mem {a b : List Int} (h : a.length = b.length) (hne : a ≠ []) : widL a b ∈ apL a b := maxOf_mem (apL_ne h hne)
theorem belowA : ∀ {a b : List Int}, a.length = b.length → ((List.zipWith (fun x y => decide (x ≤ y)) a b).all id = true ↔ ∀ t ∈ difL a b, 0 ≤ t)
  | [], [], _ => by simp [difL]
  | x :: a, y :: b, h => by
    have ih := belowA (a := a) (b := b) (by simpa using h)
    show ((decide (x ≤ y) && (List.zipWith (fun x y => decide (x ≤ y)) a b).all id) = true) ↔ ∀ t ∈ (y - x) :: difL a b, 0 ≤ t
    rw [Bool.and_eq_true, ih, decide_eq_true_iff]
    constructor
    · rintro ⟨h1, h2⟩ t ht
      rcases List.mem_cons.mp ht with e | ht
      · omega
      · exact h2 t ht
    · intro g
      exact ⟨by have := g (y - x) (by simp); omega, fun t ht => g t (by simp [ht])⟩
  | [], _ :: _, h => by simp at h
  | _ :: _, [], h => by simp at h
theorem belowZ {a b : List Int} (h : a.length = b.length) (hne : a ≠ []) : decide (0 ≤ minOf (difL a b)) = (List.zipWith (fun x y => decide (x ≤ y)) a b).all id := by
  by_cases g : 0 ≤ minOf (difL a b)
  · rw [decide_eq_true g, (belowA h).mpr fun t ht => Int.le_trans g (minOf_le ht)]
  · rw [decide_eq_false g]
    cases e : (List.zipWith (fun x y => decide (x ≤ y)) a b).all id with
    | false => rfl
    | true => exact absurd (le_minOf (difL_ne h hne) ((belowA h).mp e)) g
theorem zip_ge {a b : List Int} : List.zipWith (fun x y => decide (y ≤ x)) a b = List.zipWith (fun x y => decide (x ≤ y)) b a := by rw [List.zipWith_comm]
theorem ixK {l : List Int} {x : Int} (h : x ∈ l) : (dI l)[firstIx x l]? = some (.int x) ∧ (D.int x).eqv (.int x) = true ∧ ∀ (m : Nat) (z' : D), m < firstIx x l → (dI l)[m]? = some z' → z'.eqv (.int x) = false := by
  refine ⟨?_, by rw [eqv_int]; simp, fun m z' hm hz => ?_⟩
  · rw [List.getElem?_map, firstIx_at h]; rfl
  · rw [List.getElem?_map] at hz
    cases e : l[m]? with
    | none => rw [e] at hz; cases hz
    | some y =>
      rw [e] at hz
      cases hz
      rw [eqv_int]
      have := firstIx_no hm e
      simpa using this
def g_widest : FA := fun ds C => ∃ d a e b, ds = [d, e] ∧ Sq d a ∧ Sq e b ∧ a.length = b.length ∧ a ≠ [] ∧ a.length ≤ 1000 ∧ C (.val (.int (firstIx (widL a b) (apL a b))))
theorem rd_widest : ∀ ds C, ds.length = 2 → g_widest ds C → T_widest g_gaps g_width (EA C) (startA N_widest ds) := by
  rintro ds C - ⟨d, a, e, b, rfl, hd, he, hl, hne, ha, hC⟩
  refine ⟨rfl, d, a, e, b, rfl, hd, he, hl, ha, fun p => ?_⟩
  obtain ⟨i1, i2, i3⟩ := ixK (wid_mem hl hne)
  exact ⟨rfl, d, a, e, b, rfl, hd, he, hl, hne, ha, sh_lstI _, sh_int _, _, _, i1, i2, i3, hC⟩
abbrev gxU : FX := fun ds C => ∃ d a e b, ds = [d, e] ∧ Sq d a ∧ Sq e b ∧ a.length ≠ b.length ∧ C ⟨unl, .non⟩
abbrev gx_rises : FX := gxU
abbrev gx_gaps : FX := gxU
abbrev gx_width : FX := gxU
abbrev gx_widest : FX := gxU
abbrev gx_is_below : FX := gxU
def gx_widths : FX := fun ds C => ∃ d a e b, ds = [d, e, .lst []] ∧ Sq d a ∧ Sq e b ∧ a.length ≠ b.length ∧ a ≠ [] ∧ b ≠ [] ∧ a.length ≤ 1000 ∧ b.length ≤ 1000 ∧ C ⟨unl, .non⟩
theorem rdx_rises : ∀ ds C, ds.length = 2 → gx_rises ds C → TX_rises E0 (EX C) (startA N_rises ds) := by
  rintro ds C - ⟨d, a, e, b, rfl, hd, he, hl, hC⟩
  have hb : (!(D.int ((dI a).length : Nat)).eqv (.int ((dI b).length : Nat))) = true := by rw [eqv_int, ints_len, ints_len]; simp; omega
  rcases hd with rfl | rfl <;> rcases he with rfl | rfl <;> exact ⟨sh_int _, sh_int _, ifT hb hC⟩
theorem rdx_gaps : ∀ ds C, ds.length = 2 → gx_gaps ds C → TX_gaps g_rises gx_rises E0 (EX C) (startA N_gaps ds) := by
  rintro ds C - ⟨d, a, e, b, rfl, hd, he, hl, hC⟩
  exact .inr ⟨rfl, d, a, e, b, rfl, hd, he, hl, hC⟩
theorem rdx_width : ∀ ds C, ds.length = 2 → gx_width ds C → TX_width g_gaps gx_gaps E0 (EX C) (startA N_width ds) := by
  rintro ds C - ⟨d, a, e, b, rfl, hd, he, hl, hC⟩
  exact .inr ⟨rfl, d, a, e, b, rfl, hd, he, hl, hC⟩
theorem rdx_widest : ∀ ds C, ds.length = 2 → gx_widest ds C → TX_widest g_gaps g_width gx_gaps E0 (EX C) (startA N_widest ds) := by
  rintro ds C - ⟨d, a, e, b, rfl, hd, he, hl, hC⟩
  exact .inr ⟨rfl, d, a, e, b, rfl, hd, he, hl, hC⟩
theorem rdx_is_below : ∀ ds C, ds.length = 2 → gx_is_below ds C → TX_is_below g_rises gx_rises E0 (EX C) (startA N_is_below ds) := by
  rintro ds C - ⟨d, a, e, b, rfl, hd, he, hl, hC⟩
  exact .inr ⟨rfl, d, a, e, b, rfl, hd, he, hl, hC⟩
theorem rdx_widths : ∀ ds C, ds.length = 3 → gx_widths ds C → TX_widths g_days g_width gx_width E0 (EX C) (startA N_widths ds) := by
  rintro ds C - ⟨d, a, e, b, rfl, hd, he, hl, hna, hnb, ha, hb, hC⟩
  refine .inr ⟨rfl, d, a, .lst (windsD []), [], rfl, hd, .inl rfl, hna, ha, by decide, fun p => ?_⟩
  refine ⟨rfl, e, b, .lst (windsD []), [], rfl, he, .inl rfl, hnb, hb, by decide, fun q => ?_⟩
  exact ⟨rfl, rfl, rfl, _, a, _, b, rfl, .inl rfl, .inl rfl, hl, hC⟩
def g__law_refused : FA := fun ds C => ∃ (a b : List Int) (q : Nat), ds = [tD a, tD b, .int q] ∧ a.length ≠ b.length ∧ a ≠ [] ∧ b ≠ [] ∧ a.length ≤ 1000 ∧ b.length ≤ 1000 ∧ C (.val (.bl true))
theorem rd__law_refused : ∀ ds C, ds.length = 3 → g__law_refused ds C → T__law_refused g_width g_widest g_is_below g_widths gx_width gx_widest gx_is_below gx_widths (EA C) (startA N__law_refused ds) := by
  rintro ds C - ⟨a, b, q, rfl, hl, hna, hnb, ha, hb, hC⟩
  have hv : ([("ValueError" : Str)].any (isaX "Unlike")) = true := by decide +kernel
  have fin : ∀ x : XD, x = ⟨unl, .non⟩ → x.c = unl ∧ 3 < 5 ∧ C (.val (.bl ([("ValueError" : Str)].any (isaX "Unlike")))) := fun x e => by
    rw [e, hv]; exact ⟨rfl, by decide, hC⟩
  refine ⟨sh_int _, sh_int _, ifB (fun h => ?_) (fun h => ?_)⟩
  · exact .inr ⟨rfl, _, a, _, b, rfl, .inl rfl, .inl rfl, hl, fin _ rfl⟩
  refine ⟨sh_int _, sh_int _, ifB (fun h => ?_) (fun h => ?_)⟩
  · exact .inr ⟨rfl, _, a, _, b, rfl, .inl rfl, .inl rfl, hl, fin _ rfl⟩
  refine ⟨sh_int _, sh_int _, ifB (fun h => ?_) (fun h => ?_)⟩
  · exact .inr ⟨rfl, _, a, _, b, rfl, .inl rfl, .inl rfl, hl, fin _ rfl⟩
  exact .inr ⟨by show (0 : Nat) ≤ sizeLine; decide, rfl, _, a, _, b, rfl, .inl rfl, .inl rfl, hl, hna, hnb, ha, hb, fin _ rfl⟩
def g__law_near_k50 : FB := fun xs ds C => ∃ n hill, n ≤ 10000000000 ∧ Bx n xs ∧ ds = [tD hill] ∧ hill.length ≤ 100 ∧ (∀ x ∈ hill, -1000000000 ≤ x ∧ x ≤ 1000000000) ∧ ∀ (out : List Int) zs, out.length = hill.length → (∀ x ∈ out, -1000000100 ≤ x ∧ x ≤ 1000000100) → Bx (n + 1000) zs → C (.val (tD out)) zs
theorem rd__law_near_k50 : ∀ a xs ds C, ds.length + 1 = 2 → g__law_near_k50 xs ds C → T__law_near_k50 (g_take 100000000000000) { nx := fun ρ => ∃ ys, ρ[0]? = some (some (.own a ys)) ∧ C (.val .non) ys, rt := fun c ρ => ∃ ys, ρ[0]? = some (some (.own a ys)) ∧ C c ys } (startB N__law_near_k50 a xs ds) := by
  rintro a xs ds C - ⟨n, hill, hn, hB, rfl, hl, hr, hC⟩
  refine ⟨xs, rfl, rfl, n, 4, by omega, hB, rfl, by decide, by decide, fun way ys1 a1 a2 hB1 => ?_⟩
  refine ⟨ys1, rfl, rfl, _, 9, by omega, hB1, rfl, by decide, by decide, fun rise ys2 r1 r2 hB2 => ?_⟩
  refine ⟨by show (2 : Nat) ≤ sizeLine; decide, rfl, rfl, ?_⟩
  refine ⟨sh_int _, sh_int _, ifB (fun h => ?_) (fun h => ?_)⟩
  · refine lcW_ints (h := fun x => .int (x + rise)) (fun x _ K hK => hK _ rfl) (by omega) ?_
    refine ⟨ys2, rfl, ?_⟩
    have := hC (hill.map fun x => x + rise) ys2 (by simp) (fun x hx => ?_) (hB2.mono (by omega))
    · unfold tD dI at this; rw [List.map_map] at this; exact this
    · obtain ⟨y, hy, rfl⟩ := List.mem_map.mp hx
      have := hr y hy; omega
  refine ⟨sh_int _, sh_int _, ifB (fun h => ?_) (fun h => ?_)⟩
  · refine lcW_draw (fun zs => [some (.own a zs), some (.val (tD hill)), some (.val (.int way)), some (.val (.int rise)), none]) 2 20000000000 (fun d => ∃ x ∈ hill, d = .int x) (fun d y => ∃ x ∈ hill, d = .int x ∧ x ≤ y ∧ y ≤ x + 7) (fun d zs m K hd hz hm hK => ?_) (dI hill) [] _ ys2 hB2 (by rw [ints_len]; omega) (fun d hd => ?_) (by rw [ints_len]; show 0 + hill.length ≤ 1000; omega) fun out zs ho hz => ?_
    · obtain ⟨x, hx, rfl⟩ := hd
      exact ⟨zs, rfl, rfl, m, 7, by omega, hz, rfl, by decide, by decide, fun v zs' v1 v2 hz' => hK _ zs' _ hz' ⟨x, hx, rfl, by omega, by omega⟩ rfl⟩
    · obtain ⟨x, hx, rfl⟩ := List.mem_map.mp hd; exact ⟨x, hx, rfl⟩
    · refine ⟨zs, rfl, hC out zs (by rw [ho.length, ints_len]) (fun y hy => ?_) (hz.mono (by rw [ints_len]; omega))⟩
      obtain ⟨d, _, x, hx, _, h1, h2⟩ := ho.mem hy
      have := hr x hx; omega
  refine ⟨sh_int _, sh_int _, ifB (fun h => ?_) (fun h => ?_)⟩
  · refine lcW_draw (fun zs => [some (.own a zs), some (.val (tD hill)), some (.val (.int way)), some (.val (.int rise)), none]) 4 20000000000 (fun d => ∃ x ∈ hill, d = .int x) (fun d y => ∃ x ∈ hill, d = .int x ∧ x - 30 ≤ y ∧ y ≤ x + 30) (fun d zs m K hd hz hm hK => ?_) (dI hill) [] _ ys2 hB2 (by rw [ints_len]; omega) (fun d hd => ?_) (by rw [ints_len]; show 0 + hill.length ≤ 1000; omega) fun out zs ho hz => ?_
    · obtain ⟨x, hx, rfl⟩ := hd
      refine ⟨zs, rfl, rfl, m, 60, by omega, hz, rfl, by decide, by decide, fun v zs' v1 v2 hz' => ?_⟩
      refine ⟨zs', rfl, rfl, _, 3, by omega, hz', rfl, by decide, by decide, fun u zs'' u1 u2 hz'' => ⟨sh_int _, sh_int _, ?_⟩⟩
      have e01 : ∀ b : Bool, (-(2 ^ 64) : Int) < (if b = true then 1 else 0) ∧ (if b = true then (1 : Int) else 0) < 2 ^ 64 ∧ x - 30 ≤ x + (v - 30) * (if b = true then 1 else 0) ∧ x + (v - 30) * (if b = true then 1 else 0) ≤ x + 30 := fun b => by
        cases b with
        | true => refine ⟨by decide, by decide, ?_, ?_⟩ <;> rw [if_pos rfl] <;> omega
        | false => refine ⟨by decide, by decide, ?_, ?_⟩ <;> rw [if_neg (by decide)] <;> omega
      obtain ⟨c1, c2, c3, c4⟩ := e01 ((D.int u).eqv (.int 0))
      exact ⟨.inr ⟨c1, c2⟩, hK _ zs'' _ (hz''.mono (by omega)) ⟨x, hx, rfl, c3, c4⟩ rfl⟩
    · obtain ⟨x, hx, rfl⟩ := List.mem_map.mp hd; exact ⟨x, hx, rfl⟩
    · refine ⟨zs, rfl, hC out zs (by rw [ho.length, ints_len]) (fun y hy => ?_) (hz.mono (by rw [ints_len]; omega))⟩
      obtain ⟨d, _, x, hx, _, h1, h2⟩ := ho.mem hy
      have := hr x hx; omega
  exact ⟨ys2, rfl, hC hill ys2 rfl (fun x hx => by have := hr x hx; omega) (hB2.mono (by omega))⟩
section
abbrev rho (w0 : Option Cell) (w1 : Option Cell) (w2 : Option Cell) (w3 : Option Cell) (w4 : Option Cell) (w5 : Option Cell) (w6 : Option Cell) (v7 : Option D) (v8 : Option D) (w9 : Option Cell) (w10 : Option Cell) (w11 : Option Cell) (w12 : Option Cell) (w15 : Option Cell) : Ro := [w0, w1, w2, w3, w4, w5, w6, v7.map Cell.val, v8.map Cell.val, w9, w10, w11, w12, none, none, w15, none]
variable {w0 w1 w2 w3 w4 w5 w6 w9 w10 w11 w12 w15 : Option Cell} {v7 v8 : Option D}
abbrev vL (l : List Int) : Option Cell := some (.val (.lst (dI l)))
variable {P : PEnds} {ns hill near : List Int} {k : Int} {a0 p : Addr} {zs : List D} {n : Nat} {ws : List Wd}
theorem s1 (hB : Bx n zs) (hn : n ≤ 1000000) (hP : ∀ hill ws zs, hill ≠ [] → hill.length ≤ 12 → (∀ x ∈ hill, -1000000000 ≤ x ∧ x ≤ 1000000000) → ws.length ≤ 10 → (∀ w ∈ ws, 0 ≤ w.2) → Bx (n + 3000) zs → P.nx (rho w0 w1 (vo a0 zs) w3 (vT hill) (vW ws) w6 v7 v8 w9 w10 w11 w12 w15)) : T_law_1_2_1 g__law_dune g__law_winds P (rho w0 w1 (vo a0 zs) w3 w4 w5 w6 v7 v8 w9 w10 w11 w12 w15) := by
  refine ⟨zs, rfl, rfl, n, 12, by omega, hB, rfl, by decide, by decide, fun hill zs1 hne hlen hr hB1 => ?_⟩
  refine ⟨zs1, rfl, rfl, _, 10, by omega, hB1, rfl, by decide, by decide, fun p ws zs2 hl hw hB2 => ⟨by show (2 : Nat) ≤ sizeLine; decide, rfl, rfl, ?_⟩⟩
  exact hP hill ws zs2 hne (by omega) hr (by omega) (fun w h => (hw w h).1) (hB2.mono (by omega))
theorem s2 (hB : Bx n zs) (hn : n ≤ 1000000) (hl : hill.length ≤ 12) (hr : ∀ x ∈ hill, -1000000000 ≤ x ∧ x ≤ 1000000000) (hP : ∀ near zs, near.length = hill.length → Bx (n + 1000) zs → P.nx (rho w0 w1 (vo a0 zs) w3 (vT hill) w5 (vT near) v7 v8 w9 w10 w11 w12 w15)) : T_law_1_2_2 g__law_near_k50 P (rho w0 w1 (vo a0 zs) w3 (vT hill) w5 w6 v7 v8 w9 w10 w11 w12 w15) :=
  ⟨zs, rfl, rfl, n, hill, by omega, hB, rfl, by omega, hr, fun out zs2 h1 h2 h3 => hP out zs2 h1 h3⟩
theorem s3 (hl : hill.length ≤ 12) (hP : P.nx (rho w0 w1 w2 w3 (vT hill) w5 (vT near) v7 v8 (vL (apL hill near)) w10 w11 w12 w15)) : T_law_1_2_3 P (rho w0 w1 w2 w3 (vT hill) w5 (vT near) v7 v8 w9 w10 w11 w12 w15) := by
  refine lcW_z2 (h := fun x y => .int (iabs (x - y))) (fun x _ y _ K hK => ⟨rfl, rfl, hK _ (by cases v7 <;> cases v8 <;> rfl)⟩) (by omega) ?_
  rw [apZ]; exact hP
theorem s4 (hne : hill ≠ []) (hl : hill.length ≤ 12) (hnl : near.length = hill.length) (hP : ∀ p, P.nx (rho w0 w1 w2 w3 (vT hill) w5 (vT near) v7 v8 w9 (some (.own p [.int (widL hill near), .int (widL hill near)])) w11 w12 w15)) : T_law_1_2_4 g_width P (rho w0 w1 w2 w3 (vT hill) w5 (vT near) v7 v8 w9 w10 w11 w12 w15) := by
  have hP' : ∀ p, P.nx (rho w0 w1 w2 w3 (vT hill) w5 (vT near) v7 v8 w9 (some (.own p [.int (widL hill near), .int (widL near hill)])) w11 w12 w15) := fun p => by rw [widL_symm (a := near)]; exact hP p
  exact ⟨rfl, _, hill, _, near, rfl, .inl rfl, .inl rfl, hnl.symm, hne, by omega, rfl, rfl, _, near, _, hill, rfl, .inl rfl, .inr rfl, hnl, ne_len hnl hne, by omega, by show (2 : Nat) ≤ sizeLine; decide, hP'⟩
abbrev ix (hill near : List Int) : Int := ((firstIx (widL hill near) (apL hill near) : Nat) : Int)
abbrev four (hill near : List Int) : D := .lst [.int (widL hill near), .int (widL hill near), .int (ix hill near), .int (ix hill near)]
theorem s5 (hne : hill ≠ []) (hl : hill.length ≤ 12) (hnl : near.length = hill.length) (hP : P.nx (rho w0 w1 w2 w3 (vT hill) w5 (vT near) v7 v8 w9 (some (.val (four hill near))) w11 w12 w15)) : T_law_1_2_5 g_widest P (rho w0 w1 w2 w3 (vT hill) w5 (vT near) v7 v8 w9 (some (.own p [.int (widL hill near), .int (widL hill near)])) w11 w12 w15) := by
  have hP' : P.nx (rho w0 w1 w2 w3 (vT hill) w5 (vT near) v7 v8 w9 (some (.val (.lst [.int (widL hill near), .int (widL hill near), .int (ix hill near), .int (ix near hill)]))) w11 w12 w15) := by
    have e : ix near hill = ix hill near := by show ((firstIx (widL near hill) (apL near hill) : Nat) : Int) = _; rw [widL_symm (a := near), apL_symm (a := near)]
    rw [e]; exact hP
  exact ⟨rfl, _, hill, _, near, rfl, .inl rfl, .inl rfl, hnl.symm, hne, by omega, rfl, rfl, _, near, _, hill, rfl, .inr rfl, .inl rfl, hnl, ne_len hnl hne, by omega, by show (2 : Nat) ≤ sizeLine; decide, by show (4 : Nat) ≤ sizeLine; decide, hP'⟩
theorem s6 (hne : hill ≠ []) (hl : hill.length ≤ 12) (hnl : near.length = hill.length) (hP : P.nx (rho w0 w1 w2 w3 w4 w5 w6 v7 v8 (vL (apL hill near)) (some (.val (four hill near))) w11 w12 w15)) : T_law_1_2_6 (gS 4) P (rho w0 w1 w2 w3 w4 w5 w6 v7 v8 (vL (apL hill near)) (some (.val (four hill near))) w11 w12 w15) := by
  obtain ⟨m, r, h1, h2⟩ := maxOf_cons (apL_ne hnl.symm hne)
  have h2 : widL hill near = r.foldl max m := h2
  refine ⟨m, r, by rw [← h1], ?_⟩
  rw [← h2]
  refine ⟨by show (1 : Nat) ≤ sizeLine; decide, by decide, by decide, by show (1 : Nat) ≤ 1000; decide, ?_⟩
  refine ⟨m, r, by rw [← h1], ?_⟩
  rw [← h2]
  obtain ⟨i1, i2, i3⟩ := ixK (wid_mem hnl.symm hne)
  refine ⟨sh_lstI _, sh_int _, _, _, i1, i2, i3, ?_⟩
  refine ⟨by show (1 : Nat) ≤ sizeLine; decide, by decide, by decide, by show (1 : Nat) ≤ 1000; decide, by show (4 : Nat) ≤ sizeLine; decide, rfl, four hill near, rfl, ⟨by show (4 : Nat) ≤ 1000; decide, fun x hx => ?_⟩, hP⟩
  simp only [List.mem_cons, List.not_mem_nil, or_false] at hx
  rcases hx with rfl | rfl | rfl | rfl <;> trivial
abbrev bel (a b : List Int) : Bool := decide (0 ≤ minOf (difL a b))
theorem s7 (hne : hill ≠ []) (hl : hill.length ≤ 12) (hnl : near.length = hill.length) (hP : ∀ p, P.nx (rho w0 w1 w2 w3 (vT hill) w5 (vT near) v7 v8 w9 w10 (some (.own p [.bl (bel hill near)])) w12 w15)) : T_law_1_2_7 P (rho w0 w1 w2 w3 (vT hill) w5 (vT near) v7 v8 w9 w10 w11 w12 w15) := by
  refine lcW_z2 (h := fun x y => .bl (decide (x ≤ y))) (fun x _ y _ K hK => ⟨rfl, rfl, hK _ (by cases v7 <;> cases v8 <;> rfl)⟩) (by omega) ?_
  refine ⟨_, zip_bl, by show (1 : Nat) ≤ sizeLine; decide, fun p => ?_⟩
  rw [← belowZ hnl.symm hne]; exact hP p
theorem s8 (hne : hill ≠ []) (hl : hill.length ≤ 12) (hnl : near.length = hill.length) (hP : P.nx (rho w0 w1 w2 w3 (vT hill) w5 (vT near) v7 v8 w9 w10 (some (.own p [.bl (bel hill near), .bl (bel near hill)])) w12 w15)) : T_law_1_2_8 P (rho w0 w1 w2 w3 (vT hill) w5 (vT near) v7 v8 w9 w10 (some (.own p [.bl (bel hill near)])) w12 w15) := by
  refine lcW_z2 (h := fun x y => .bl (decide (y ≤ x))) (fun x _ y _ K hK => ⟨rfl, rfl, hK _ (by cases v7 <;> cases v8 <;> rfl)⟩) (by omega) ?_
  refine ⟨_, zip_bl, ?_⟩
  rw [zip_ge, ← belowZ hnl (ne_len hnl hne)]
  exact ⟨_, rfl, by show (1 : Nat) < sizeLine; decide, hP⟩
theorem s9 (hne : hill ≠ []) (hl : hill.length ≤ 12) (hnl : near.length = hill.length) (hP : P.nx (rho w0 w1 w2 w3 (vT hill) w5 (vT near) v7 v8 w9 w10 (some (.own p [.bl (bel hill near), .bl (bel near hill)])) w12 w15)) : T_law_1_2_9 g_is_below (gS 4) P (rho w0 w1 w2 w3 (vT hill) w5 (vT near) v7 v8 w9 w10 (some (.own p [.bl (bel hill near), .bl (bel near hill)])) w12 w15) := by
  refine ⟨rfl, _, hill, _, near, rfl, .inl rfl, .inl rfl, hnl.symm, hne, by omega, rfl, rfl, _, near, _, hill, rfl, .inr rfl, .inl rfl, hnl, ne_len hnl hne, by omega, by show (2 : Nat) ≤ sizeLine; decide, ?_⟩
  exact ⟨rfl, _, rfl, okN_two (by trivial) (by trivial), hP⟩
theorem s10 (hne : hill ≠ []) (hl : hill.length ≤ 12) (hnl : near.length = hill.length) (hP : ∀ p, P.nx (rho w0 w1 w2 w3 (vT hill) w5 (vT near) (some (tD hill)) (some (tD near)) (vL (apL hill near)) w10 (some (.own p [.int (widL hill near)])) w12 w15)) : T_law_1_2_10 P (rho w0 w1 w2 w3 (vT hill) w5 (vT near) v7 v8 (vL (apL hill near)) w10 w11 w12 w15) := by
  obtain ⟨m, r, h1, h2⟩ := maxOf_cons (apL_ne hnl.symm hne)
  have h2 : widL hill near = r.foldl max m := h2
  refine ⟨m, r, by rw [← h1], ?_⟩
  rw [← h2]
  exact ⟨by show (1 : Nat) ≤ sizeLine; decide, fun p => hP p⟩
theorem s11 (hne : hill ≠ []) (hl : hill.length ≤ 12) (hnl : near.length = hill.length) (hwl : ws.length ≤ 10) (hw : ∀ w ∈ ws, 0 ≤ w.2) (hP : ∀ a b w12, P.nx (rho w0 w1 w2 w3 w4 (vW ws) w6 (some (tD a)) (some (tD b)) w9 w10 (some (.own p (dI (widsL hill near ws)))) w12 w15)) : T_law_1_2_11 g__law_blown P (rho w0 w1 w2 w3 w4 (vW ws) w6 (some (tD hill)) (some (tD near)) w9 w10 (some (.own p [.int (widL hill near)])) w12 w15) := by
  refine fr_mp ws (fun w => windD w.1 w.2) (fun rest ρ => ∃ w12 a b acc, ρ = (rho w0 w1 w2 w3 w4 (vW ws) w6 (some (tD a)) (some (tD b)) w9 w10 (some (.own p (dI (acc ++ [widL a b])))) w12 w15) ∧ a.length = hill.length ∧ b.length = hill.length ∧ a ≠ [] ∧ acc ++ widsL a b rest = widsL hill near ws ∧ (∀ w ∈ rest, 0 ≤ w.2) ∧ acc.length + rest.length ≤ 10) rfl ⟨w12, hill, near, [], rfl, rfl, hnl, hne, rfl, hw, by simpa using hwl⟩ (fun w rest ρ K hI hK => ?_) (fun ρ hI => ?_)
  · obtain ⟨w12, a, b, acc, rfl, la, lb, na, he, hw, hc⟩ := hI
    have hw0 := hw w (by simp)
    have hab : a.length = b.length := by omega
    refine ⟨rfl, _, a, w.1, w.2, rfl, .inl rfl, na, by omega, hw0, rfl, _, b, w.1, w.2, rfl, .inl rfl, ne_len hab.symm na, by omega, hw0, ?_⟩
    have ha' : (blW a w).length = a.length := blW_len _ _
    have hb' : (blW b w).length = b.length := blW_len _ _
    have hne' := blW_ne na w
    refine lcW_z2 (a := blW a w) (b := blW b w) (h := fun x y => .int (iabs (x - y))) (fun x _ y _ K hK => ⟨rfl, rfl, hK _ rfl⟩) (by omega) ?_
    rw [apZ]
    obtain ⟨m, r, h1, h2⟩ := maxOf_cons (apL_ne (a := blW a w) (b := blW b w) (by omega) hne')
    have h2 : widL (blW a w) (blW b w) = r.foldl max m := h2
    refine ⟨m, r, by rw [← h1], ?_⟩
    rw [← h2]
    have hc : acc.length + (rest.length + 1) ≤ 10 := hc
    refine ⟨_, rfl, by rw [ints_len, List.length_append]; show acc.length + 1 < sizeLine; exact Nat.lt_of_lt_of_le (by omega : acc.length + 1 < 1000) (sl1000 (Nat.le_refl _)), hK _ ⟨some (.val (windD w.1 w.2)), blW a w, blW b w, acc ++ [widL a b], ?_, by omega, by omega, hne', ?_, fun v hv => hw v (by simp [hv]), by rw [List.length_append]; show acc.length + 1 + rest.length ≤ 10; omega⟩⟩
    · show (rho w0 w1 w2 w3 w4 (vW ws) w6 (some (tD (blW a w))) (some (tD (blW b w))) w9 w10 (some (.own p (dI (acc ++ [widL a b]) ++ [D.int (widL (blW a w) (blW b w))]))) (some (.val (windD w.1 w.2))) w15) = _
      have e : dI (acc ++ [widL a b]) ++ [D.int (widL (blW a w) (blW b w))] = dI ((acc ++ [widL a b]) ++ [widL (blW a w) (blW b w)]) := by
        show _ = List.map D.int _
        rw [List.map_append]; rfl
      rw [e]
    · rw [List.append_assoc]; exact he
  · obtain ⟨w12, a, b, acc, rfl, la, lb, na, he, _, _⟩ := hI
    have he : acc ++ [widL a b] = widsL hill near ws := he
    rw [he]
    exact hP a b w12
theorem s12 (hne : hill ≠ []) (hl : hill.length ≤ 12) (hnl : near.length = hill.length) (hwl : ws.length ≤ 10) (hP : ∀ p, P.nx (rho w0 w1 w2 w3 (vT hill) (vW ws) (vT near) v7 v8 w9 (some (.own p (dI (widsL hill near ws)))) w11 w12 w15)) : T_law_1_2_12 g_widths P (rho w0 w1 w2 w3 (vT hill) (vW ws) (vT near) v7 v8 w9 w10 w11 w12 w15) :=
  ⟨rfl, _, hill, _, near, _, ws, rfl, .inl rfl, .inl rfl, .inl rfl, hnl.symm, hne, by omega, by omega, fun p => hP p⟩
theorem okW (hwl : ws.length ≤ 10) (m : Nat) : okN (m + 1) (.lst (dI (widsL hill near ws))) := okN_intsL m (by rw [widsL_len]; omega)
theorem s13 {q : Addr} (hne : hill ≠ []) (hl : hill.length ≤ 12) (hnl : near.length = hill.length) (hwl : ws.length ≤ 10) (hP : P.nx (rho w0 w1 w2 w3 (vT hill) (vW ws) (vT near) v7 v8 w9 (some (.own q (dI (widsL hill near ws)))) (some (.own p (dI (widsL hill near ws)))) w12 w15)) : T_law_1_2_13 g_widths (gS 4) P (rho w0 w1 w2 w3 (vT hill) (vW ws) (vT near) v7 v8 w9 (some (.own q (dI (widsL hill near ws)))) (some (.own p (dI (widsL hill near ws)))) w12 w15) := by
  refine ⟨rfl, rfl, _, hill, _, near, _, ws, rfl, .inl rfl, .inr rfl, .inr rfl, hnl.symm, hne, by omega, by omega, fun x => ?_⟩
  exact ⟨by show (2 : Nat) ≤ sizeLine; decide, by show (2 : Nat) ≤ sizeLine; decide, rfl, _, rfl, okN_two (okW hwl 1) (okW hwl 1), hP⟩
theorem s14 {q : Addr} {l : List Int} (hP : P.nx (rho w0 w1 w2 w3 w4 w5 w6 v7 v8 w9 (some (.own q (dI l).reverse)) w11 w12 w15)) : T_law_1_2_14 P (rho w0 w1 w2 w3 w4 w5 w6 v7 v8 w9 (some (.own q (dI l))) w11 w12 w15) := hP
theorem s15 {q : Addr} {l : List D} (hl : l.length ≤ 100) (hP : ∀ l', P.nx (rho w0 w1 w2 w3 w4 w5 w6 v7 v8 w9 (some (.own q l')) w11 w12 w15)) : T_law_1_2_15 P (rho w0 w1 w2 w3 w4 w5 w6 v7 v8 w9 (some (.own q l)) w11 w12 w15) :=
  ⟨_, rfl, Nat.lt_of_lt_of_le (by omega : l.length < 1000) (sl1000 (Nat.le_refl _)), hP _⟩
theorem s16 (hne : hill ≠ []) (hl : hill.length ≤ 12) (hnl : near.length = hill.length) (hwl : ws.length ≤ 10) (hP : P.nx (rho w0 w1 w2 w3 (vT hill) (vW ws) (vT near) v7 v8 w9 w10 (some (.own p (dI (widsL hill near ws)))) w12 w15)) : T_law_1_2_16 g_widths (gS 4) P (rho w0 w1 w2 w3 (vT hill) (vW ws) (vT near) v7 v8 w9 w10 (some (.own p (dI (widsL hill near ws)))) w12 w15) := by
  refine ⟨rfl, _, hill, _, near, _, ws, rfl, .inl rfl, .inl rfl, .inl rfl, hnl.symm, hne, by omega, by omega, fun x => ?_⟩
  exact ⟨rfl, _, rfl, okW hwl 2, hP⟩
theorem s17 (hB : Bx n zs) (hn : n ≤ 1000000) (hl : hill.length ≤ 12) (hP : ∀ v zs, Bx (n + 2) zs → P.nx (rho w0 w1 (vo a0 zs) w3 (vT hill) w5 w6 v7 v8 w9 w10 w11 w12 (vT (hill ++ [v])))) : T_law_1_2_17 (g_take 100000000000000) P (rho w0 w1 (vo a0 zs) w3 (vT hill) w5 w6 v7 v8 w9 w10 w11 w12 w15) := by
  refine ⟨zs, rfl, rfl, n, 9, by omega, hB, rfl, by decide, by decide, fun v zs1 v0 v1 hB1 => ⟨by show (1 : Nat) ≤ sizeLine; decide, ?_⟩⟩
  refine ⟨by rw [ints_len]; exact sl1000 (by show hill.length + 1 ≤ 1000; omega), ?_⟩
  have e : dI hill ++ [D.int v] = dI (hill ++ [v]) := by
    show _ = List.map D.int _
    rw [List.map_append]; rfl
  show P.nx (rho w0 w1 (vo a0 zs1) w3 (vT hill) w5 w6 v7 v8 w9 w10 w11 w12 (some (.val (.tup (dI hill ++ [D.int v])))))
  rw [e]
  exact hP v zs1 hB1
theorem s18 {long : List Int} (hne : hill ≠ []) (hl : hill.length ≤ 12) (hll : long.length = hill.length + 1) (hP : P.nx (rho w0 w1 w2 w3 (vT hill) w5 w6 v7 v8 w9 w10 w11 w12 (vT long))) : T_law_1_2_18 g__law_refused P (rho w0 w1 w2 w3 (vT hill) w5 w6 v7 v8 w9 w10 w11 w12 (vT long)) := by
  have hln : long ≠ [] := fun e => by rw [e] at hll; simp at hll
  refine ⟨by decide, by decide, ?_⟩
  refine lc_rg 4 (fun _ => .bl true) rfl (fun j hj K hK => ?_) (by decide) ?_
  · refine ⟨rfl, hill, long, j, rfl, by omega, hne, hln, by omega, by omega, ?_⟩
    exact ⟨rfl, long, hill, j, rfl, by omega, hln, hne, by omega, by omega, hK _ rfl⟩
  · exact ⟨[true, true, true, true], rfl, hP⟩
theorem rd_law : ∀ ds C, ds.length = 1 → g_law ds C → T_law g_width g_widest g_is_below g_widths g__law_box (g_take 100000000000000) (gS 4) g__law_blown g__law_dune g__law_winds g__law_near_k50 g__law_refused (EA C) (startA N_law ds) := by
  rintro ds C - ⟨ns, rfl, hns, hC⟩
  refine ⟨by show (-(2 ^ 62) : Int) ≤ 1 + min 2 _; omega, by show (1 + min 2 _ : Int) < 2 ^ 62; omega, ?_⟩
  refine fr_rg (1 + min 2 (ns.length : Int)).toNat (fun j ρ => ∃ w1 w2 w3 w4 w5 w6 v7 v8 w9 w10 w11 w12 w15, ρ = (rho (some (.val (.scr ns))) w1 w2 w3 w4 w5 w6 v7 v8 w9 w10 w11 w12 w15)) rfl ⟨none, none, none, none, none, none, none, none, none, none, none, none, none, rfl⟩ (fun k ρ K hk hI hK => ?_) (fun ρ hI => hC)
  obtain ⟨w1, w2, w3, w4, w5, w6, v7, v8, w9, w10, w11, w12, w15, rfl⟩ := hI
  refine ⟨rfl, ns, k, rfl, by omega, by omega, fun a0 zs hB => ?_⟩
  refine ⟨by decide, by decide, ?_⟩
  refine fr_rg 2 (fun j ρ => ∃ zs w3 w4 w5 w6 v7 v8 w9 w10 w11 w12 w15, Bx (5000 * j) zs ∧ ρ = (rho (some (.val (.scr ns))) (vI k) (vo a0 zs) w3 w4 w5 w6 v7 v8 w9 w10 w11 w12 w15)) rfl ⟨zs, _, _, _, _, _, _, _, _, _, _, _, hB, rfl⟩ (fun j ρ K2 hj hI hK2 => ?_) (fun ρ hI => ?_)
  · obtain ⟨zs, w3, w4, w5, w6, v7, v8, w9, w10, w11, w12, w15, hB, rfl⟩ := hI
    refine s1 (w3 := vI j) hB (by omega) fun hill ws zs hne hl hr hwl hw hB => ?_
    refine s2 hB (by omega) hl hr fun near zs hnl hB => ?_
    refine s3 hl ?_
    refine s4 hne hl hnl fun p => ?_
    refine s5 hne hl hnl ?_
    refine s6 hne hl hnl ?_
    refine s7 hne hl hnl fun p => ?_
    refine s8 hne hl hnl ?_
    refine s9 hne hl hnl ?_
    refine s10 hne hl hnl fun p => ?_
    refine s11 hne hl hnl hwl hw fun a b w12 => ?_
    refine s12 hne hl hnl hwl fun q => ?_
    refine s13 hne hl hnl hwl ?_
    dsimp only [pSeq]
    refine s14 ?_
    refine s15 (by rw [List.length_reverse, ints_len, widsL_len]; omega) fun l' => ?_
    refine s16 hne hl hnl hwl ?_
    refine s17 hB (by omega) hl fun v zs hB => ?_
    refine s18 hne hl (by simp) ?_
    exact hK2 _ ⟨zs, _, _, _, _, _, _, _, _, _, _, _, hB.mono (by omega), rfl⟩
  · obtain ⟨zs, w3, w4, w5, w6, v7, v8, w9, w10, w11, w12, w15, hB, rfl⟩ := hI
    exact hK _ ⟨_, _, _, _, _, _, _, _, _, _, _, _, _, rfl⟩
end
end Pl
namespace Pl
open PySem PySem.Spec PyProof.Rows L2
def topS (i : Nat) : Stmt := PySem.Challenge.pw_dunebooks_k50_widths_of_two_dunes.main.body.getD i (.Pass ⟨0, 0, 0, 0⟩)
abbrev s_mirrored : Stmt := topS 3
abbrev NN_mirrored : List Str := [("dune" : Str)]
theorem sc_mirrored : FnScope NN_mirrored ["dune"] (defScope s_mirrored) := ⟨rfl, rfl, rfl, by decide +kernel, rfl, by decide +kernel, by decide +kernel⟩
abbrev s_upside : Stmt := topS 4
abbrev NN_upside : List Str := [("dune" : Str), ("height" : Str)]
theorem sc_upside : FnScope NN_upside ["dune"] (defScope s_upside) := ⟨rfl, rfl, rfl, by decide +kernel, rfl, by decide +kernel, by decide +kernel⟩
abbrev s_blown : Stmt := topS 6
abbrev NN_blown : List Str := [("dune" : Str), ("wind" : Str), ("word" : Str), ("slope" : Str)]
theorem sc_blown : FnScope NN_blown ["dune", "wind"] (defScope s_blown) := ⟨rfl, rfl, rfl, by decide +kernel, rfl, by decide +kernel, by decide +kernel⟩
abbrev s_cut_to : Stmt := topS 7
abbrev NN_cut_to : List Str := [("dune" : Str), ("slope" : Str), ("onward" : Str)]
theorem sc_cut_to : FnScope NN_cut_to ["dune", "slope"] (defScope s_cut_to) := ⟨rfl, rfl, rfl, by decide +kernel, rfl, by decide +kernel, by decide +kernel⟩
abbrev s_cut_onward : Stmt := topS 8
abbrev NN_cut_onward : List Str := [("dune" : Str), ("slope" : Str), ("heights" : Str), ("height" : Str)]
theorem sc_cut_onward : FnScope NN_cut_onward ["dune", "slope"] (defScope s_cut_onward) := ⟨rfl, rfl, rfl, by decide +kernel, rfl, by decide +kernel, by decide +kernel⟩
abbrev s_days : Stmt := topS 10
abbrev NN_days : List Str := [("dune" : Str), ("almanac" : Str), ("rows" : Str), ("wind" : Str)]
theorem sc_days : FnScope NN_days ["dune", "almanac"] (defScope s_days) := ⟨rfl, rfl, rfl, by decide +kernel, rfl, by decide +kernel, by decide +kernel⟩
abbrev s_rises : Stmt := topS 12
abbrev NN_rises : List Str := [("one" : Str), ("other" : Str), ("here" : Str), ("there" : Str)]
theorem sc_rises : FnScope NN_rises ["one", "other"] (defScope s_rises) := ⟨rfl, rfl, rfl, by decide +kernel, rfl, by decide +kernel, by decide +kernel⟩
abbrev s_gaps : Stmt := topS 13
abbrev NN_gaps : List Str := [("one" : Str), ("other" : Str), ("rise" : Str)]
theorem sc_gaps : FnScope NN_gaps ["one", "other"] (defScope s_gaps) := ⟨rfl, rfl, rfl, by decide +kernel, rfl, by decide +kernel, by decide +kernel⟩
abbrev s_width : Stmt := topS 14
abbrev NN_width : List Str := [("one" : Str), ("other" : Str)]
theorem sc_width : FnScope NN_width ["one", "other"] (defScope s_width) := ⟨rfl, rfl, rfl, by decide +kernel, rfl, by decide +kernel, by decide +kernel⟩
abbrev s_widest : Stmt := topS 15
abbrev NN_widest : List Str := [("one" : Str), ("other" : Str)]
theorem sc_widest : FnScope NN_widest ["one", "other"] (defScope s_widest) := ⟨rfl, rfl, rfl, by decide +kernel, rfl, by decide +kernel, by decide +kernel⟩
abbrev s_is_below : Stmt := topS 16
abbrev NN_is_below : List Str := [("one" : Str), ("other" : Str)]
theorem sc_is_below : FnScope NN_is_below ["one", "other"] (defScope s_is_below) := ⟨rfl, rfl, rfl, by decide +kernel, rfl, by decide +kernel, by decide +kernel⟩
abbrev s_widths : Stmt := topS 17
abbrev NN_widths : List Str := [("one" : Str), ("other" : Str), ("almanac" : Str), ("here" : Str), ("there" : Str)]
theorem sc_widths : FnScope NN_widths ["one", "other", "almanac"] (defScope s_widths) := ⟨rfl, rfl, rfl, by decide +kernel, rfl, by decide +kernel, by decide +kernel⟩
abbrev s__law_cell_at : Stmt := topS 19
abbrev NN__law_cell_at : List Str := [("_law_script" : Str), ("_law_k" : Str)]
theorem sc__law_cell_at : FnScope NN__law_cell_at ["_law_script", "_law_k"] (defScope s__law_cell_at) := ⟨rfl, rfl, rfl, by decide +kernel, rfl, by decide +kernel, by decide +kernel⟩
abbrev s__law_box : Stmt := topS 20
abbrev NN__law_box : List Str := [("_law_script" : Str), ("_law_k" : Str), ("_law_cell" : Str)]
theorem sc__law_box : FnScope NN__law_box ["_law_script", "_law_k"] (defScope s__law_box) := ⟨rfl, rfl, rfl, by decide +kernel, rfl, by decide +kernel, by decide +kernel⟩
abbrev s__law_take : Stmt := topS 21
abbrev NN__law_take : List Str := [("_law_box_here" : Str), ("_law_size" : Str), ("_law_told" : Str), ("_law_once" : Str), ("_law_twice" : Str)]
theorem sc__law_take : FnScope NN__law_take ["_law_box_here", "_law_size"] (defScope s__law_take) := ⟨rfl, rfl, rfl, by decide +kernel, rfl, by decide +kernel, by decide +kernel⟩
abbrev s__law_same : Stmt := topS 22
abbrev NN__law_same : List Str := [("_law_told" : Str), ("_law_due" : Str), ("_law_here" : Str), ("_law_two" : Str)]
theorem sc__law_same : FnScope NN__law_same ["_law_told", "_law_due"] (defScope s__law_same) := ⟨rfl, rfl, rfl, by decide +kernel, rfl, by decide +kernel, by decide +kernel⟩
abbrev s__law_blown : Stmt := topS 23
abbrev NN__law_blown : List Str := [("_law_hill" : Str), ("_law_gust" : Str), ("_law_sign" : Str), ("_law_slope_here" : Str), ("_law_told" : Str), ("_law_i" : Str), ("_law_j" : Str)]
theorem sc__law_blown : FnScope NN__law_blown ["_law_hill", "_law_gust"] (defScope s__law_blown) := ⟨rfl, rfl, rfl, by decide +kernel, rfl, by decide +kernel, by decide +kernel⟩
abbrev s__law_dune : Stmt := topS 24
abbrev NN__law_dune : List Str := [("_law_box_here" : Str), ("_law_size" : Str), ("_law_many" : Str), ("_law_wide" : Str), ("_law_told" : Str), ("_law_pole" : Str)]
theorem sc__law_dune : FnScope NN__law_dune ["_law_box_here", "_law_size"] (defScope s__law_dune) := ⟨rfl, rfl, rfl, by decide +kernel, rfl, by decide +kernel, by decide +kernel⟩
abbrev s__law_slope : Stmt := topS 25
abbrev NN__law_slope : List Str := [("_law_box_here" : Str)]
theorem sc__law_slope : FnScope NN__law_slope ["_law_box_here"] (defScope s__law_slope) := ⟨rfl, rfl, rfl, by decide +kernel, rfl, by decide +kernel, by decide +kernel⟩
abbrev s__law_winds : Stmt := topS 26
abbrev NN__law_winds : List Str := [("_law_box_here" : Str), ("_law_size" : Str), ("_law_turn" : Str)]
theorem sc__law_winds : FnScope NN__law_winds ["_law_box_here", "_law_size"] (defScope s__law_winds) := ⟨rfl, rfl, rfl, by decide +kernel, rfl, by decide +kernel, by decide +kernel⟩
abbrev s__law_near : Stmt := topS 27
abbrev NN__law_near : List Str := [("_law_box_here" : Str), ("_law_hill" : Str), ("_law_way" : Str), ("_law_rise" : Str), ("_law_level" : Str)]
theorem sc__law_near : FnScope NN__law_near ["_law_box_here", "_law_hill"] (defScope s__law_near) := ⟨rfl, rfl, rfl, by decide +kernel, rfl, by decide +kernel, by decide +kernel⟩
abbrev s__law_refused : Stmt := topS 28
abbrev NN__law_refused : List Str := [("_law_here" : Str), ("_law_two" : Str), ("_law_way" : Str), ("_law_caught" : Str), ("error" : Str)]
theorem sc__law_refused : FnScope NN__law_refused ["_law_here", "_law_two", "_law_way"] (defScope s__law_refused) := ⟨rfl, rfl, rfl, by decide +kernel, rfl, by decide +kernel, by decide +kernel⟩
abbrev s_law : Stmt := topS 29
abbrev NN_law : List Str := [("_law_script" : Str), ("_law_k" : Str), ("_law_box_here" : Str), ("_law_turn" : Str), ("_law_hill" : Str), ("_law_winds_here" : Str), ("_law_near_here" : Str), ("_law_mine" : Str), ("_law_its" : Str), ("_law_apart" : Str), ("_law_told" : Str), ("_law_due" : Str), ("_law_gust" : Str), ("_law_first" : Str), ("_law_last" : Str), ("_law_longer" : Str), ("_law_way" : Str)]
theorem sc_law : FnScope NN_law ["_law_script"] (defScope s_law) := ⟨rfl, rfl, rfl, by decide +kernel, rfl, by decide +kernel, by decide +kernel⟩
abbrev si_Unlike : Stmt := inS (topS 1) 0
set_option maxHeartbeats 4000000 in
structure Tx (K : PySem.W.Frag) (mg : Str → Option Value) where
  f_mirrored : Addr
  fd_mirrored : FuncData
  F_mirrored : Fun K "mirrored" "mirrored" s_mirrored f_mirrored fd_mirrored
  m_mirrored : mg "mirrored" = some (.ref f_mirrored)
  b_mirrored : L2.Binds K fd_mirrored ["dune"] []
  f_upside : Addr
  fd_upside : FuncData
  F_upside : Fun K "upside" "upside" s_upside f_upside fd_upside
  m_upside : mg "upside" = some (.ref f_upside)
  b_upside : L2.Binds K fd_upside ["dune"] []
  f_blown : Addr
  fd_blown : FuncData
  F_blown : Fun K "blown" "blown" s_blown f_blown fd_blown
  m_blown : mg "blown" = some (.ref f_blown)
  b_blown : L2.Binds K fd_blown ["dune", "wind"] []
  f_cut_to : Addr
  fd_cut_to : FuncData
  F_cut_to : Fun K "cut_to" "cut_to" s_cut_to f_cut_to fd_cut_to
  m_cut_to : mg "cut_to" = some (.ref f_cut_to)
  b_cut_to : L2.Binds K fd_cut_to ["dune", "slope"] []
  f_cut_onward : Addr
  fd_cut_onward : FuncData
  F_cut_onward : Fun K "cut_onward" "cut_onward" s_cut_onward f_cut_onward fd_cut_onward
  m_cut_onward : mg "cut_onward" = some (.ref f_cut_onward)
  b_cut_onward : L2.Binds K fd_cut_onward ["dune", "slope"] []
  f_days : Addr
  fd_days : FuncData
  F_days : Fun K "days" "days" s_days f_days fd_days
  m_days : mg "days" = some (.ref f_days)
  b_days : L2.Binds K fd_days ["dune", "almanac"] []
  f_rises : Addr
  fd_rises : FuncData
  F_rises : Fun K "rises" "rises" s_rises f_rises fd_rises
  m_rises : mg "rises" = some (.ref f_rises)
  b_rises : L2.Binds K fd_rises ["one", "other"] []
  f_gaps : Addr
  fd_gaps : FuncData
  F_gaps : Fun K "gaps" "gaps" s_gaps f_gaps fd_gaps
  m_gaps : mg "gaps" = some (.ref f_gaps)
  b_gaps : L2.Binds K fd_gaps ["one", "other"] []
  f_width : Addr
  fd_width : FuncData
  F_width : Fun K "width" "width" s_width f_width fd_width
  m_width : mg "width" = some (.ref f_width)
  b_width : L2.Binds K fd_width ["one", "other"] []
  f_widest : Addr
  fd_widest : FuncData
  F_widest : Fun K "widest" "widest" s_widest f_widest fd_widest
  m_widest : mg "widest" = some (.ref f_widest)
  b_widest : L2.Binds K fd_widest ["one", "other"] []
  f_is_below : Addr
  fd_is_below : FuncData
  F_is_below : Fun K "is_below" "is_below" s_is_below f_is_below fd_is_below
  m_is_below : mg "is_below" = some (.ref f_is_below)
  b_is_below : L2.Binds K fd_is_below ["one", "other"] []
  f_widths : Addr
  fd_widths : FuncData
  F_widths : Fun K "widths" "widths" s_widths f_widths fd_widths
  m_widths : mg "widths" = some (.ref f_widths)
  b_widths : L2.Binds K fd_widths ["one", "other", "almanac"] []
  f__law_cell_at : Addr
  fd__law_cell_at : FuncData
  F__law_cell_at : Fun K "_law_cell_at" "_law_cell_at" s__law_cell_at f__law_cell_at fd__law_cell_at
  m__law_cell_at : mg "_law_cell_at" = some (.ref f__law_cell_at)
  b__law_cell_at : L2.Binds K fd__law_cell_at ["_law_script", "_law_k"] []
  f__law_box : Addr
  fd__law_box : FuncData
  F__law_box : Fun K "_law_box" "_law_box" s__law_box f__law_box fd__law_box
  m__law_box : mg "_law_box" = some (.ref f__law_box)
  b__law_box : L2.Binds K fd__law_box ["_law_script", "_law_k"] []
  f__law_take : Addr
  fd__law_take : FuncData
  F__law_take : Fun K "_law_take" "_law_take" s__law_take f__law_take fd__law_take
  m__law_take : mg "_law_take" = some (.ref f__law_take)
  b__law_take : L2.Binds K fd__law_take ["_law_box_here", "_law_size"] []
  f__law_same : Addr
  fd__law_same : FuncData
  F__law_same : Fun K "_law_same" "_law_same" s__law_same f__law_same fd__law_same
  m__law_same : mg "_law_same" = some (.ref f__law_same)
  b__law_same : L2.Binds K fd__law_same ["_law_told", "_law_due"] []
  f__law_blown : Addr
  fd__law_blown : FuncData
  F__law_blown : Fun K "_law_blown" "_law_blown" s__law_blown f__law_blown fd__law_blown
  m__law_blown : mg "_law_blown" = some (.ref f__law_blown)
  b__law_blown : L2.Binds K fd__law_blown ["_law_hill", "_law_gust"] []
  f__law_dune : Addr
  fd__law_dune : FuncData
  F__law_dune : Fun K "_law_dune" "_law_dune" s__law_dune f__law_dune fd__law_dune
  m__law_dune : mg "_law_dune" = some (.ref f__law_dune)
  b__law_dune : L2.Binds K fd__law_dune ["_law_box_here", "_law_size"] []
  f__law_slope : Addr
  fd__law_slope : FuncData
  F__law_slope : Fun K "_law_slope" "_law_slope" s__law_slope f__law_slope fd__law_slope
  m__law_slope : mg "_law_slope" = some (.ref f__law_slope)
  b__law_slope : L2.Binds K fd__law_slope ["_law_box_here"] []
  f__law_winds : Addr
  fd__law_winds : FuncData
  F__law_winds : Fun K "_law_winds" "_law_winds" s__law_winds f__law_winds fd__law_winds
  m__law_winds : mg "_law_winds" = some (.ref f__law_winds)
  b__law_winds : L2.Binds K fd__law_winds ["_law_box_here", "_law_size"] []
  f__law_near : Addr
  fd__law_near : FuncData
  F__law_near : Fun K "_law_near" "_law_near" s__law_near f__law_near fd__law_near
  m__law_near : mg "_law_near" = some (.ref f__law_near)
  b__law_near : L2.Binds K fd__law_near ["_law_box_here", "_law_hill"] []
  f__law_refused : Addr
  fd__law_refused : FuncData
  F__law_refused : Fun K "_law_refused" "_law_refused" s__law_refused f__law_refused fd__law_refused
  m__law_refused : mg "_law_refused" = some (.ref f__law_refused)
  b__law_refused : L2.Binds K fd__law_refused ["_law_here", "_law_two", "_law_way"] []
  f_law : Addr
  fd_law : FuncData
  F_law : Fun K "law" "law" s_law f_law fd_law
  m_law : mg "law" = some (.ref f_law)
  b_law : L2.Binds K fd_law ["_law_script"] []
  C_Unlike : Addr
  x_Unlike : XCl K mg "Unlike" C_Unlike
  fI_Unlike : Addr
  fdI_Unlike : FuncData
  iC_Unlike : PySem.W.findIn K (.ref C_Unlike) "__init__" = some (some (.ref fI_Unlike))
  tI_Unlike : PySem.W.typeIn K (.ref fI_Unlike) = some (.type "function")
  FI_Unlike : Fun K "__init__" "Unlike.__init__" si_Unlike fI_Unlike fdI_Unlike
  bI_Unlike : L2.Binds K fdI_Unlike ["self"] []
  vI_Unlike : PySem.W.findCls K (.type "ValueError") (.type "type") "__init__" = some (.val (.builtin "ValueError.__init__"))
  z_ValueError : mg "ValueError" = none
  z_abs : mg "abs" = none
  z_all : mg "all" = none
  z_bool : mg "bool" = none
  z_int : mg "int" = none
  z_isinstance : mg "isinstance" = none
  z_len : mg "len" = none
  z_list : mg "list" = none
  z_max : mg "max" = none
  z_min : mg "min" = none
  z_range : mg "range" = none
  z_str : mg "str" = none
  z_tuple : mg "tuple" = none
  z_zip : mg "zip" = none
section
variable {P : Program} {w : World} {K : PySem.W.Frag} {mg : Str → Option Value} {base : Heap} (Z : Tx K mg)
include Z
set_option maxHeartbeats 4000000 in
theorem bd_mirrored {k : Nat} : ∀ (cdv : Value) (A : Around) (outer : List Env) (s : Shared) (H : Hp) (E : XK), Room k (A.deeper (envOfC "mirrored" (defScope s_mirrored) s.heap.objs.size Z.f_mirrored cdv)) → ∃ t, PPSs (cxOf CX0 P w K mg base NN_mirrored "mirrored" (defScope s_mirrored) Z.f_mirrored cdv A outer s H E).nox (defBody s_mirrored) t (T_mirrored) :=
  fun cdv A outer s H E hr => ⟨_, (ppss_one (pps_ret (ppc_val (ppe_callTy call_tuple_of cp_tup (by rfl) Z.z_tuple (by decide +kernel) (ppa_cons (ppe_rev (ppe_var 0)) ppa_nil)))))⟩
set_option maxHeartbeats 4000000 in
theorem bd_upside {k : Nat} : ∀ (cdv : Value) (A : Around) (outer : List Env) (s : Shared) (H : Hp) (E : XK), Room k (A.deeper (envOfC "upside" (defScope s_upside) s.heap.objs.size Z.f_upside cdv)) → ∃ t, PPSs (cxOf CX0 P w K mg base NN_upside "upside" (defScope s_upside) Z.f_upside cdv A outer s H E).nox (defBody s_upside) t (T_upside) :=
  fun cdv A outer s H E hr => ⟨_, (ppss_one (pps_ret (ppc_val (ppe_callTy call_tuple_of cp_tup (by rfl) Z.z_tuple (by decide +kernel) (ppa_cons (ppe_lcL (own := [("height", 1)]) rfl sc_upside.nd (ppi_seq (ppe_var 0)) (blkOk_by (N := NN_upside) (sc := defScope s_upside) (by decide +kernel)) (fun _ _ _ _ _ => ((ptg_name (i := 1) sc_upside.nd)).lift) (fun _ _ _ _ _ => (ppts_nil).lift) (fun _ _ _ _ _ => ((ppe_neg (ppe_var 1))).lift)) ppa_nil)))))⟩
set_option maxHeartbeats 4000000 in
theorem bd_blown {k : Nat} {g_upside : FA} (O_upside : FnOk P w K mg base CX0 k Z.f_upside Z.fd_upside [("dune" : Str)] (spA K 1 g_upside)) {g_cut_to : FA} (O_cut_to : FnOk P w K mg base CX0 k Z.f_cut_to Z.fd_cut_to [("dune" : Str), ("slope" : Str)] (spA K 2 g_cut_to)) : ∀ (cdv : Value) (A : Around) (outer : List Env) (s : Shared) (H : Hp) (E : XK), Room k (A.deeper (envOfC "blown" (defScope s_blown) s.heap.objs.size Z.f_blown cdv)) → ∃ t, PPSs (cxOf CX0 P w K mg base NN_blown "blown" (defScope s_blown) Z.f_blown cdv A outer s H E).nox (defBody s_blown) t (T_blown g_upside g_cut_to) :=
  fun cdv A outer s H E hr => ⟨_, (ppss_cons (pps_asg (ppe_var 1) (ptg_tup (n := 2) rfl (ptgs_cons (ptg_name (i := 2) sc_blown.nd) (ptgs_cons (ptg_name (i := 3) sc_blown.nd) ptgs_nil))))
    (ppss_cons (pps_if (ppt_cmp (cm_eq (hu64 hr)) (ppe_var 2) ppe_str (nomark _))
    (ppss_one (pps_ret (ppc_callA O_cut_to hr (by rfl) Z.m_cut_to Z.F_cut_to.kp Z.b_cut_to (ppa_cons (ppe_var 0) (ppa_cons (ppe_var 3) ppa_nil)))))
    ppss_nil)
    (ppss_one (pps_ret (ppc_callA O_upside hr (by rfl) Z.m_upside Z.F_upside.kp Z.b_upside (ppa_cons (ppe_frz (ppc_callA O_cut_to hr (by rfl) Z.m_cut_to Z.F_cut_to.kp Z.b_cut_to (ppa_cons (ppe_frz (ppc_callA O_upside hr (by rfl) Z.m_upside Z.F_upside.kp Z.b_upside (ppa_cons (ppe_var 0) ppa_nil))) (ppa_cons (ppe_var 3) ppa_nil)))) ppa_nil))))))⟩
set_option maxHeartbeats 4000000 in
theorem bd_cut_to {k : Nat} {g_mirrored : FA} (O_mirrored : FnOk P w K mg base CX0 k Z.f_mirrored Z.fd_mirrored [("dune" : Str)] (spA K 1 g_mirrored)) {g_cut_onward : FA} (O_cut_onward : FnOk P w K mg base CX0 k Z.f_cut_onward Z.fd_cut_onward [("dune" : Str), ("slope" : Str)] (spA K 2 g_cut_onward)) : ∀ (cdv : Value) (A : Around) (outer : List Env) (s : Shared) (H : Hp) (E : XK), Room k (A.deeper (envOfC "cut_to" (defScope s_cut_to) s.heap.objs.size Z.f_cut_to cdv)) → ∃ t, PPSs (cxOf CX0 P w K mg base NN_cut_to "cut_to" (defScope s_cut_to) Z.f_cut_to cdv A outer s H E).nox (defBody s_cut_to) t (T_cut_to g_mirrored g_cut_onward) :=
  fun cdv A outer s H E hr => ⟨_, (ppss_cons (pps_set (i := 2) sc_cut_to.nd (ppc_callA O_cut_onward hr (by rfl) Z.m_cut_onward Z.F_cut_onward.kp Z.b_cut_onward (ppa_cons (ppe_var 0) (ppa_cons (ppe_var 1) ppa_nil))))
    (ppss_one (pps_ret (ppc_callA O_mirrored hr (by rfl) Z.m_mirrored Z.F_mirrored.kp Z.b_mirrored (ppa_cons (ppe_frz (ppc_callA O_cut_onward hr (by rfl) Z.m_cut_onward Z.F_cut_onward.kp Z.b_cut_onward (ppa_cons (ppe_frz (ppc_callA O_mirrored hr (by rfl) Z.m_mirrored Z.F_mirrored.kp Z.b_mirrored (ppa_cons (ppe_var 2) ppa_nil))) (ppa_cons (ppe_var 1) ppa_nil)))) ppa_nil)))))⟩
set_option maxHeartbeats 4000000 in
theorem bd_cut_onward {k : Nat} : ∀ (cdv : Value) (A : Around) (outer : List Env) (s : Shared) (H : Hp) (E : XK), Room k (A.deeper (envOfC "cut_onward" (defScope s_cut_onward) s.heap.objs.size Z.f_cut_onward cdv)) → ∃ t, PPSs (cxOf CX0 P w K mg base NN_cut_onward "cut_onward" (defScope s_cut_onward) Z.f_cut_onward cdv A outer s H E).nox (defBody s_cut_onward) t (T_cut_onward) :=
  fun cdv A outer s H E hr => ⟨_, (ppss_cons (pps_set (i := 2) sc_cut_onward.nd (ppc_lst (ppa_cons (ppe_ixO 0 ppe_int) ppa_nil)))
    (ppss_cons (pps_for PassesOwn.never rfl (ppi_seq (ppe_slice (ppe_var 0) (ppo_some ppe_int) ppo_none)) (ptg_name (i := 3) sc_cut_onward.nd)
    (ppss_one (pps_append 2 (ppe_callB (call_min2 rfl) cp_min2 (by rfl) Z.z_min (by decide +kernel) (ppa_cons (ppe_var 3) (ppa_cons (ppe_add (ppe_ixO 2 (ppe_neg ppe_int)) (ppe_var 1)) ppa_nil))))))
    (ppss_one (pps_ret (ppc_move 2)))))⟩
set_option maxHeartbeats 4000000 in
theorem bd_days {k : Nat} {g_blown : FA} (O_blown : FnOk P w K mg base CX0 k Z.f_blown Z.fd_blown [("dune" : Str), ("wind" : Str)] (spA K 2 g_blown)) : ∀ (cdv : Value) (A : Around) (outer : List Env) (s : Shared) (H : Hp) (E : XK), Room k (A.deeper (envOfC "days" (defScope s_days) s.heap.objs.size Z.f_days cdv)) → ∃ t, PPSs (cxOf CX0 P w K mg base NN_days "days" (defScope s_days) Z.f_days cdv A outer s H E).nox (defBody s_days) t (T_days g_blown) :=
  fun cdv A outer s H E hr => ⟨_, (ppss_cons (pps_set (i := 2) sc_days.nd (ppc_lst (ppa_cons (ppe_callTy call_tuple_of cp_tup (by rfl) Z.z_tuple (by decide +kernel) (ppa_cons (ppe_var 0) ppa_nil)) ppa_nil)))
    (ppss_cons (pps_for PassesOwn.never rfl (ppi_seq (ppe_var 1)) (ptg_name (i := 3) sc_days.nd)
    (ppss_one (pps_append 2 (ppe_frz (ppc_callA O_blown hr (by rfl) Z.m_blown Z.F_blown.kp Z.b_blown (ppa_cons (ppe_ixO 2 (ppe_neg ppe_int)) (ppa_cons (ppe_var 3) ppa_nil)))))))
    (ppss_one (pps_ret (ppc_move 2)))))⟩
set_option maxHeartbeats 4000000 in
theorem bd_rises {k : Nat} : ∀ (cdv : Value) (A : Around) (outer : List Env) (s : Shared) (H : Hp) (E : XK), Room k (A.deeper (envOfC "rises" (defScope s_rises) s.heap.objs.size Z.f_rises cdv)) → ∃ t, PPSs (cxOf CX0 P w K mg base NN_rises "rises" (defScope s_rises) Z.f_rises cdv A outer s H E).nox (defBody s_rises) t (T_rises) :=
  fun cdv A outer s H E hr => ⟨_, (ppss_cons (pps_if (ppt_cmp (cm_ne (hu64 hr)) (ppe_lenO 0 (by rfl) Z.z_len) (ppe_lenO 1 (by rfl) Z.z_len) (nomark _))
    (ppss_one pps_never)
    ppss_nil)
    (ppss_one (pps_ret (ppc_val (ppe_callTy call_tuple_of cp_tup (by rfl) Z.z_tuple (by decide +kernel) (ppa_cons (ppe_lcL (own := [("here", 2), ("there", 3)]) rfl sc_rises.nd (ppi_z2 (by rfl) Z.z_zip (ppa_cons (ppe_var 0) (ppa_cons (ppe_var 1) ppa_nil))) (blkOk_by (N := NN_rises) (sc := defScope s_rises) (by decide +kernel)) (fun _ _ _ _ _ => ((ptg_tup (n := 2) rfl (ptgs_cons (ptg_name (i := 2) sc_rises.nd) (ptgs_cons (ptg_name (i := 3) sc_rises.nd) ptgs_nil)))).lift) (fun _ _ _ _ _ => (ppts_nil).lift) (fun _ _ _ _ _ => ((ppe_sub (ppe_var 3) (ppe_var 2))).lift)) ppa_nil))))))⟩
set_option maxHeartbeats 4000000 in
theorem bd_gaps {k : Nat} {g_rises : FA} (O_rises : FnOk P w K mg base CX0 k Z.f_rises Z.fd_rises [("one" : Str), ("other" : Str)] (spA K 2 g_rises)) : ∀ (cdv : Value) (A : Around) (outer : List Env) (s : Shared) (H : Hp) (E : XK), Room k (A.deeper (envOfC "gaps" (defScope s_gaps) s.heap.objs.size Z.f_gaps cdv)) → ∃ t, PPSs (cxOf CX0 P w K mg base NN_gaps "gaps" (defScope s_gaps) Z.f_gaps cdv A outer s H E).nox (defBody s_gaps) t (T_gaps g_rises) :=
  fun cdv A outer s H E hr => ⟨_, (ppss_one (pps_ret (ppc_lcL (own := [("rise", 2)]) rfl sc_gaps.nd (ppi_seq (ppe_frz (ppc_callA O_rises hr (by rfl) Z.m_rises Z.F_rises.kp Z.b_rises (ppa_cons (ppe_var 0) (ppa_cons (ppe_var 1) ppa_nil))))) (blkOk_by (N := NN_gaps) (sc := defScope s_gaps) (by decide +kernel)) (fun _ _ _ _ _ => ((ptg_name (i := 2) sc_gaps.nd)).lift) (fun _ _ _ _ _ => (ppts_nil).lift) (fun _ _ _ _ _ => ((ppe_callB call_abs cp_abs (by rfl) Z.z_abs (by decide +kernel) (ppa_cons (ppe_var 2) ppa_nil))).lift))))⟩
set_option maxHeartbeats 4000000 in
theorem bd_width {k : Nat} {g_gaps : FA} (O_gaps : FnOk P w K mg base CX0 k Z.f_gaps Z.fd_gaps [("one" : Str), ("other" : Str)] (spA K 2 g_gaps)) : ∀ (cdv : Value) (A : Around) (outer : List Env) (s : Shared) (H : Hp) (E : XK), Room k (A.deeper (envOfC "width" (defScope s_width) s.heap.objs.size Z.f_width cdv)) → ∃ t, PPSs (cxOf CX0 P w K mg base NN_width "width" (defScope s_width) Z.f_width cdv A outer s H E).nox (defBody s_width) t (T_width g_gaps) :=
  fun cdv A outer s H E hr => ⟨_, (ppss_one (pps_ret (ppc_val (ppe_callB (cr_maxA rfl (hu64 hr)) cp_best (by rfl) Z.z_max (by decide +kernel) (ppa_cons (ppe_frz (ppc_callA O_gaps hr (by rfl) Z.m_gaps Z.F_gaps.kp Z.b_gaps (ppa_cons (ppe_var 0) (ppa_cons (ppe_var 1) ppa_nil)))) ppa_nil)))))⟩
set_option maxHeartbeats 4000000 in
theorem bd_widest {k : Nat} {g_gaps : FA} (O_gaps : FnOk P w K mg base CX0 k Z.f_gaps Z.fd_gaps [("one" : Str), ("other" : Str)] (spA K 2 g_gaps)) {g_width : FA} (O_width : FnOk P w K mg base CX0 k Z.f_width Z.fd_width [("one" : Str), ("other" : Str)] (spA K 2 g_width)) : ∀ (cdv : Value) (A : Around) (outer : List Env) (s : Shared) (H : Hp) (E : XK), Room k (A.deeper (envOfC "widest" (defScope s_widest) s.heap.objs.size Z.f_widest cdv)) → ∃ t, PPSs (cxOf CX0 P w K mg base NN_widest "widest" (defScope s_widest) Z.f_widest cdv A outer s H E).nox (defBody s_widest) t (T_widest g_gaps g_width) :=
  fun cdv A outer s H E hr => ⟨_, (ppss_one (pps_ret (ppc_val (ppe_index (hu65 hr) (ppe_frz (ppc_callA O_gaps hr (by rfl) Z.m_gaps Z.F_gaps.kp Z.b_gaps (ppa_cons (ppe_var 0) (ppa_cons (ppe_var 1) ppa_nil)))) (ppe_frz (ppc_callA O_width hr (by rfl) Z.m_width Z.F_width.kp Z.b_width (ppa_cons (ppe_var 0) (ppa_cons (ppe_var 1) ppa_nil))))))))⟩
set_option maxHeartbeats 4000000 in
theorem bd_is_below {k : Nat} {g_rises : FA} (O_rises : FnOk P w K mg base CX0 k Z.f_rises Z.fd_rises [("one" : Str), ("other" : Str)] (spA K 2 g_rises)) : ∀ (cdv : Value) (A : Around) (outer : List Env) (s : Shared) (H : Hp) (E : XK), Room k (A.deeper (envOfC "is_below" (defScope s_is_below) s.heap.objs.size Z.f_is_below cdv)) → ∃ t, PPSs (cxOf CX0 P w K mg base NN_is_below "is_below" (defScope s_is_below) Z.f_is_below cdv A outer s H E).nox (defBody s_is_below) t (T_is_below g_rises) :=
  fun cdv A outer s H E hr => ⟨_, (ppss_one (pps_ret (ppc_val (ppe_cmp cm_ge (ppe_callB (cr_minA rfl (hu64 hr)) cp_best (by rfl) Z.z_min (by decide +kernel) (ppa_cons (ppe_frz (ppc_callA O_rises hr (by rfl) Z.m_rises Z.F_rises.kp Z.b_rises (ppa_cons (ppe_var 0) (ppa_cons (ppe_var 1) ppa_nil)))) ppa_nil)) ppe_int (nomark _)))))⟩
set_option maxHeartbeats 4000000 in
theorem bd_widths {k : Nat} {g_days : FA} (O_days : FnOk P w K mg base CX0 k Z.f_days Z.fd_days [("dune" : Str), ("almanac" : Str)] (spA K 2 g_days)) {g_width : FA} (O_width : FnOk P w K mg base CX0 k Z.f_width Z.fd_width [("one" : Str), ("other" : Str)] (spA K 2 g_width)) : ∀ (cdv : Value) (A : Around) (outer : List Env) (s : Shared) (H : Hp) (E : XK), Room k (A.deeper (envOfC "widths" (defScope s_widths) s.heap.objs.size Z.f_widths cdv)) → ∃ t, PPSs (cxOf CX0 P w K mg base NN_widths "widths" (defScope s_widths) Z.f_widths cdv A outer s H E).nox (defBody s_widths) t (T_widths g_days g_width) :=
  fun cdv A outer s H E hr => ⟨_, (ppss_one (pps_ret (ppc_lcL (own := [("here", 3), ("there", 4)]) rfl sc_widths.nd (ppi_z2 (by rfl) Z.z_zip (ppa_cons (ppe_frz (ppc_callA O_days hr (by rfl) Z.m_days Z.F_days.kp Z.b_days (ppa_cons (ppe_var 0) (ppa_cons (ppe_var 2) ppa_nil)))) (ppa_cons (ppe_frz (ppc_callA O_days hr (by rfl) Z.m_days Z.F_days.kp Z.b_days (ppa_cons (ppe_var 1) (ppa_cons (ppe_var 2) ppa_nil)))) ppa_nil))) (blkOk_by (N := NN_widths) (sc := defScope s_widths) (by decide +kernel)) (fun _ _ _ _ _ => ((ptg_tup (n := 2) rfl (ptgs_cons (ptg_name (i := 3) sc_widths.nd) (ptgs_cons (ptg_name (i := 4) sc_widths.nd) ptgs_nil)))).lift) (fun _ _ _ _ _ => (ppts_nil).lift) (fun _ _ _ _ _ => ((ppe_frz (ppc_callA O_width hr (by rfl) Z.m_width Z.F_width.kp Z.b_width (ppa_cons (ppe_var 3) (ppa_cons (ppe_var 4) ppa_nil))))).lift))))⟩
set_option maxHeartbeats 4000000 in
theorem bd__law_cell_at {k : Nat} : ∀ (cdv : Value) (A : Around) (outer : List Env) (s : Shared) (H : Hp) (E : XK), Room k (A.deeper (envOfC "_law_cell_at" (defScope s__law_cell_at) s.heap.objs.size Z.f__law_cell_at cdv)) → ∃ t, PPSs (cxOf CX0 P w K mg base NN__law_cell_at "_law_cell_at" (defScope s__law_cell_at) Z.f__law_cell_at cdv A outer s H E).nox (defBody s__law_cell_at) t (T__law_cell_at) :=
  fun cdv A outer s H E hr => ⟨_, (ppss_cons (pps_if (ppt_cmp cm_lt (ppe_var 1) (ppe_lenO 0 (by rfl) Z.z_len) (nomark _))
    (ppss_one (pps_ret (ppc_val (ppe_ixO 0 (ppe_var 1)))))
    ppss_nil)
    (ppss_one (pps_ret (ppc_val ppe_int))))⟩
set_option maxHeartbeats 4000000 in
theorem bd__law_box {k : Nat} {g__law_cell_at : FA} (O__law_cell_at : FnOk P w K mg base CX0 k Z.f__law_cell_at Z.fd__law_cell_at [("_law_script" : Str), ("_law_k" : Str)] (spA K 2 g__law_cell_at)) : ∀ (cdv : Value) (A : Around) (outer : List Env) (s : Shared) (H : Hp) (E : XK), Room k (A.deeper (envOfC "_law_box" (defScope s__law_box) s.heap.objs.size Z.f__law_box cdv)) → ∃ t, PPSs (cxOf CX0 P w K mg base NN__law_box "_law_box" (defScope s__law_box) Z.f__law_box cdv A outer s H E).nox (defBody s__law_box) t (T__law_box g__law_cell_at) :=
  fun cdv A outer s H E hr => ⟨_, (ppss_cons (pps_set (i := 2) sc__law_box.nd (ppc_callA O__law_cell_at hr (by rfl) Z.m__law_cell_at Z.F__law_cell_at.kp Z.b__law_cell_at (ppa_cons (ppe_var 0) (ppa_cons (ppe_var 1) ppa_nil))))
    (ppss_one (pps_ret (ppc_lst (ppa_cons (ppe_mul (ppe_callB call_abs cp_abs (by rfl) Z.z_abs (by decide +kernel) (ppa_cons (ppe_var 2) ppa_nil)) (ppe_callTy call_int1 cp_int1 (by rfl) Z.z_int (by decide +kernel) (ppa_cons (ppe_cmp cm_ge (ppe_callB call_abs cp_abs (by rfl) Z.z_abs (by decide +kernel) (ppa_cons (ppe_var 2) ppa_nil)) (ppe_powc 1000000000000000000) (nomark _)) ppa_nil))) (ppa_cons (ppe_add (ppe_add (ppe_mod (ppe_var 2) ppe_int) (ppe_mul ppe_int (ppe_var 1))) ppe_int) (ppa_cons ppe_int ppa_nil)))))))⟩
set_option maxHeartbeats 4000000 in
theorem bd__law_take {k : Nat} {g__law_take : FB} (O__law_take : FnOk P w K mg base CX0 k Z.f__law_take Z.fd__law_take [("_law_box_here" : Str), ("_law_size" : Str)] (spB K 2 g__law_take)) : ∀ (cdv : Value) (A : Around) (outer : List Env) (s : Shared) (H : Hp) (E : XK), Room k (A.deeper (envOfC "_law_take" (defScope s__law_take) s.heap.objs.size Z.f__law_take cdv)) → ∃ t, PPSs (cxOf CX0 P w K mg base NN__law_take "_law_take" (defScope s__law_take) Z.f__law_take cdv A outer s H E).nox (defBody s__law_take) t (T__law_take g__law_take) :=
  fun cdv A outer s H E hr => ⟨_, (ppss_cons (pps_if (ppt_cmp cm_gt (ppe_ixO 0 ppe_int) ppe_int (nomark _))
    (ppss_cons (pps_set (i := 2) sc__law_take.nd (ppc_val (ppe_mod (ppe_ixO 0 ppe_int) (ppe_var 1))))
    (ppss_cons (pps_store 0 ppe_int (ppe_div (ppe_ixO 0 ppe_int) (ppe_var 1)))
    (ppss_one (pps_ret (ppc_move 2)))))
    ppss_nil)
    (ppss_cons (pps_if (ppt_cmp cm_gt (ppe_var 1) (ppe_powc 10000000) (nomark _))
    (ppss_one (pps_ret (ppc_val (ppe_mod (ppe_add (ppe_frz (ppc_callB 0 O__law_take hr (by rfl) Z.m__law_take Z.F__law_take.kp Z.b__law_take (ppa_cons (ppe_powc 10000000) ppa_nil))) (ppe_mul (ppe_powc 10000000) (ppe_frz (ppc_callB 0 O__law_take hr (by rfl) Z.m__law_take Z.F__law_take.kp Z.b__law_take (ppa_cons (ppe_add (ppe_div (ppe_sub (ppe_var 1) ppe_int) (ppe_powc 10000000)) ppe_int) ppa_nil))))) (ppe_var 1)))))
    ppss_nil)
    (ppss_cons (pps_store 0 ppe_int (ppe_add (ppe_ixO 0 ppe_int) ppe_int))
    (ppss_cons (pps_set (i := 3) sc__law_take.nd (ppc_val (ppe_mod (ppe_mul (ppe_add (ppe_ixO 0 ppe_int) (ppe_mul ppe_int (ppe_ixO 0 ppe_int))) (ppe_add ppe_int (ppe_ixO 0 ppe_int))) ppe_int)))
    (ppss_cons (pps_set (i := 4) sc__law_take.nd (ppc_val (ppe_mod (ppe_mul (ppe_add (ppe_add (ppe_var 3) (ppe_ixO 0 ppe_int)) (ppe_div (ppe_ixO 0 ppe_int) ppe_int)) (ppe_add (ppe_mod (ppe_var 3) ppe_int) ppe_int)) ppe_int)))
    (ppss_one (pps_ret (ppc_val (ppe_mod (ppe_div (ppe_mod (ppe_add (ppe_mul (ppe_var 4) ppe_int) (ppe_var 3)) ppe_int) ppe_int) (ppe_var 1))))))))))⟩
set_option maxHeartbeats 4000000 in
theorem bd__law_same {k : Nat} {g__law_same : FA} (O__law_same : FnOk P w K mg base CX0 k Z.f__law_same Z.fd__law_same [("_law_told" : Str), ("_law_due" : Str)] (spA K 2 g__law_same)) : ∀ (cdv : Value) (A : Around) (outer : List Env) (s : Shared) (H : Hp) (E : XK), Room k (A.deeper (envOfC "_law_same" (defScope s__law_same) s.heap.objs.size Z.f__law_same cdv)) → ∃ t, PPSs (cxOf CX0 P w K mg base NN__law_same "_law_same" (defScope s__law_same) Z.f__law_same cdv A outer s H E).nox (defBody s__law_same) t (T__law_same g__law_same) :=
  fun cdv A outer s H E hr => ⟨_, (ppss_cons (pps_if (ppt_val (ppe_isi2 isT_list isT_tuple (by rfl) Z.z_isinstance (by rfl) Z.z_list (by rfl) Z.z_tuple (ppe_var 1)))
    (ppss_cons (pps_if (PPW.ppt (ppw_or (ppt_cmp (cm_ne (hu64 hr)) (ppe_isi isT_list (by rfl) Z.z_isinstance (by rfl) Z.z_list (ppe_var 0)) (ppe_isi isT_list (by rfl) Z.z_isinstance (by rfl) Z.z_list (ppe_var 1)) (nomark _)) (ppw_or1 (ppt_cmp (cm_ne (hu64 hr)) (ppe_isi isT_tuple (by rfl) Z.z_isinstance (by rfl) Z.z_tuple (ppe_var 0)) (ppe_isi isT_tuple (by rfl) Z.z_isinstance (by rfl) Z.z_tuple (ppe_var 1)) (nomark _)))))
    (ppss_one (pps_ret (ppc_val ppe_bl)))
    ppss_nil)
    (ppss_one (pps_ret (ppc_val (ppe_and (ppe_cmp (cm_eq (hu64 hr)) (ppe_lenO 0 (by rfl) Z.z_len) (ppe_lenO 1 (by rfl) Z.z_len) (nomark _)) (ppe_one (ppe_callB (cr_all rfl) cp_all (by rfl) Z.z_all (by decide +kernel) (ppa_cons (ppe_lcL (own := [("_law_here", 2), ("_law_two", 3)]) rfl sc__law_same.nd (ppi_z2 (by rfl) Z.z_zip (ppa_cons (ppe_var 0) (ppa_cons (ppe_var 1) ppa_nil))) (blkOk_by (N := NN__law_same) (sc := defScope s__law_same) (by decide +kernel)) (fun _ _ _ _ _ => ((ptg_tup (n := 2) rfl (ptgs_cons (ptg_name (i := 2) sc__law_same.nd) (ptgs_cons (ptg_name (i := 3) sc__law_same.nd) ptgs_nil)))).lift) (fun _ _ _ _ _ => (ppts_nil).lift) (fun _ _ _ _ _ => ((ppe_frz (ppc_callA O__law_same hr (by rfl) Z.m__law_same Z.F__law_same.kp Z.b__law_same (ppa_cons (ppe_var 2) (ppa_cons (ppe_var 3) ppa_nil))))).lift)) ppa_nil))))))))
    ppss_nil)
    (ppss_cons (pps_if (PPW.ppt (ppw_or (ppt_cmp cm_isN (ppe_var 1) ppe_non (nomark _)) (ppw_or1 (ppt_val (ppe_isi2 isT_bool isT_str (by rfl) Z.z_isinstance (by rfl) Z.z_bool (by rfl) Z.z_str (ppe_var 1))))))
    (ppss_one (pps_ret (ppc_val (ppe_and (ppe_cmp (cm_eq (hu64 hr)) (ppe_var 0) (ppe_var 1) (nomark _)) (ppe_and (ppe_cmp (cm_eq (hu64 hr)) (ppe_isi isT_bool (by rfl) Z.z_isinstance (by rfl) Z.z_bool (ppe_var 0)) (ppe_isi isT_bool (by rfl) Z.z_isinstance (by rfl) Z.z_bool (ppe_var 1)) (nomark _)) (ppe_one (ppe_cmp (cm_eq (hu64 hr)) (ppe_cmp cm_isN (ppe_var 0) ppe_non (nomark _)) (ppe_cmp cm_isN (ppe_var 1) ppe_non (nomark _)) (nomark _))))))))
    ppss_nil)
    (ppss_one (pps_ret (ppc_val (ppe_and (ppe_isi isT_int (by rfl) Z.z_isinstance (by rfl) Z.z_int (ppe_var 0)) (ppe_and (ppe_not (ppe_isi isT_bool (by rfl) Z.z_isinstance (by rfl) Z.z_bool (ppe_var 0))) (ppe_one (ppe_cmp (cm_eq (hu64 hr)) (ppe_var 0) (ppe_var 1) (nomark _))))))))))⟩
set_option maxHeartbeats 4000000 in
theorem bd__law_blown {k : Nat} : ∀ (cdv : Value) (A : Around) (outer : List Env) (s : Shared) (H : Hp) (E : XK), Room k (A.deeper (envOfC "_law_blown" (defScope s__law_blown) s.heap.objs.size Z.f__law_blown cdv)) → ∃ t, PPSs (cxOf CX0 P w K mg base NN__law_blown "_law_blown" (defScope s__law_blown) Z.f__law_blown cdv A outer s H E).nox (defBody s__law_blown) t (T__law_blown) :=
  fun cdv A outer s H E hr => ⟨_, (ppss_cons (pps_asg (ppe_var 1) (ptg_tup (n := 2) rfl (ptgs_cons (ptg_name (i := 2) sc__law_blown.nd) (ptgs_cons (ptg_name (i := 3) sc__law_blown.nd) ptgs_nil))))
    (ppss_cons (pps_set (i := 4) sc__law_blown.nd (ppc_lst ppa_nil))
    (ppss_cons (pps_for PassesOwn.never rfl (ppi_range1 (by rfl) Z.z_range (ppa_cons (ppe_lenO 0 (by rfl) Z.z_len) ppa_nil)) (ptg_name (i := 5) sc__law_blown.nd)
    (ppss_one (pps_if (ppt_cmp (cm_eq (hu64 hr)) (ppe_var 2) ppe_str (nomark _))
    (ppss_one (pps_append 4 (ppe_callB (cr_minA rfl (hu64 hr)) cp_best (by rfl) Z.z_min (by decide +kernel) (ppa_cons (ppe_lcL (own := [("_law_j", 6)]) rfl sc__law_blown.nd (ppi_range1 (by rfl) Z.z_range (ppa_cons (ppe_lenO 0 (by rfl) Z.z_len) ppa_nil)) (blkOk_by (N := NN__law_blown) (sc := defScope s__law_blown) (by decide +kernel)) (fun _ _ _ _ _ => ((ptg_name (i := 6) sc__law_blown.nd)).lift) (fun _ _ _ _ _ => (ppts_nil).lift) (fun _ _ _ _ _ => ((ppe_add (ppe_ixO 0 (ppe_var 6)) (ppe_mul (ppe_var 3) (ppe_callB call_abs cp_abs (by rfl) Z.z_abs (by decide +kernel) (ppa_cons (ppe_sub (ppe_var 5) (ppe_var 6)) ppa_nil))))).lift)) ppa_nil))))
    (ppss_one (pps_append 4 (ppe_callB (cr_maxA rfl (hu64 hr)) cp_best (by rfl) Z.z_max (by decide +kernel) (ppa_cons (ppe_lcL (own := [("_law_j", 6)]) rfl sc__law_blown.nd (ppi_range1 (by rfl) Z.z_range (ppa_cons (ppe_lenO 0 (by rfl) Z.z_len) ppa_nil)) (blkOk_by (N := NN__law_blown) (sc := defScope s__law_blown) (by decide +kernel)) (fun _ _ _ _ _ => ((ptg_name (i := 6) sc__law_blown.nd)).lift) (fun _ _ _ _ _ => (ppts_nil).lift) (fun _ _ _ _ _ => ((ppe_sub (ppe_ixO 0 (ppe_var 6)) (ppe_mul (ppe_var 3) (ppe_callB call_abs cp_abs (by rfl) Z.z_abs (by decide +kernel) (ppa_cons (ppe_sub (ppe_var 5) (ppe_var 6)) ppa_nil))))).lift)) ppa_nil)))))))
    (ppss_one (pps_ret (ppc_val (ppe_callTy call_tuple_of cp_tup (by rfl) Z.z_tuple (by decide +kernel) (ppa_cons (ppe_var 4) ppa_nil))))))))⟩
set_option maxHeartbeats 4000000 in
theorem bd__law_dune {k : Nat} {g__law_take : FB} (O__law_take : FnOk P w K mg base CX0 k Z.f__law_take Z.fd__law_take [("_law_box_here" : Str), ("_law_size" : Str)] (spB K 2 g__law_take)) : ∀ (cdv : Value) (A : Around) (outer : List Env) (s : Shared) (H : Hp) (E : XK), Room k (A.deeper (envOfC "_law_dune" (defScope s__law_dune) s.heap.objs.size Z.f__law_dune cdv)) → ∃ t, PPSs (cxOf CX0 P w K mg base NN__law_dune "_law_dune" (defScope s__law_dune) Z.f__law_dune cdv A outer s H E).nox (defBody s__law_dune) t (T__law_dune g__law_take) :=
  fun cdv A outer s H E hr => ⟨_, (ppss_cons (pps_par (i := 2) (j := 3) rfl sc__law_dune.nd (ppa_cons (ppe_add ppe_int (ppe_frz (ppc_callB 0 O__law_take hr (by rfl) Z.m__law_take Z.F__law_take.kp Z.b__law_take (ppa_cons (ppe_var 1) ppa_nil)))) (ppa_cons (ppe_ix (ppe_lst (ppa_cons ppe_int (ppa_cons ppe_int (ppa_cons ppe_int (ppa_cons (ppe_powc 1000000000) ppa_nil))))) (ppe_frz (ppc_callB 0 O__law_take hr (by rfl) Z.m__law_take Z.F__law_take.kp Z.b__law_take (ppa_cons ppe_int ppa_nil)))) ppa_nil)))
    (ppss_cons (pps_set (i := 4) sc__law_dune.nd (ppc_lst ppa_nil))
    (ppss_cons (pps_for PassesOwn.never rfl (ppi_range1 (by rfl) Z.z_range (ppa_cons (ppe_var 2) ppa_nil)) (ptg_name (i := 5) sc__law_dune.nd)
    (ppss_one (pps_append 4 (ppe_ix (ppe_lst (ppa_cons ppe_int (ppa_cons (ppe_var 3) (ppa_cons (ppe_sub (ppe_frz (ppc_callB 0 O__law_take hr (by rfl) Z.m__law_take Z.F__law_take.kp Z.b__law_take (ppa_cons (ppe_add (ppe_mul ppe_int (ppe_var 3)) ppe_int) ppa_nil))) (ppe_var 3)) (ppa_cons (ppe_frz (ppc_callB 0 O__law_take hr (by rfl) Z.m__law_take Z.F__law_take.kp Z.b__law_take (ppa_cons (ppe_add (ppe_var 3) ppe_int) ppa_nil))) ppa_nil))))) (ppe_frz (ppc_callB 0 O__law_take hr (by rfl) Z.m__law_take Z.F__law_take.kp Z.b__law_take (ppa_cons ppe_int ppa_nil)))))))
    (ppss_one (pps_ret (ppc_val (ppe_callTy call_tuple_of cp_tup (by rfl) Z.z_tuple (by decide +kernel) (ppa_cons (ppe_var 4) ppa_nil))))))))⟩
set_option maxHeartbeats 4000000 in
theorem bd__law_slope {k : Nat} {g__law_take : FB} (O__law_take : FnOk P w K mg base CX0 k Z.f__law_take Z.fd__law_take [("_law_box_here" : Str), ("_law_size" : Str)] (spB K 2 g__law_take)) : ∀ (cdv : Value) (A : Around) (outer : List Env) (s : Shared) (H : Hp) (E : XK), Room k (A.deeper (envOfC "_law_slope" (defScope s__law_slope) s.heap.objs.size Z.f__law_slope cdv)) → ∃ t, PPSs (cxOf CX0 P w K mg base NN__law_slope "_law_slope" (defScope s__law_slope) Z.f__law_slope cdv A outer s H E).nox (defBody s__law_slope) t (T__law_slope g__law_take) :=
  fun cdv A outer s H E hr => ⟨_, (ppss_one (pps_ret (ppc_callB 0 O__law_take hr (by rfl) Z.m__law_take Z.F__law_take.kp Z.b__law_take (ppa_cons (ppe_ix (ppe_lst (ppa_cons ppe_int (ppa_cons ppe_int (ppa_cons ppe_int (ppa_cons (ppe_powc 1000000000) ppa_nil))))) (ppe_frz (ppc_callB 0 O__law_take hr (by rfl) Z.m__law_take Z.F__law_take.kp Z.b__law_take (ppa_cons ppe_int ppa_nil)))) ppa_nil))))⟩
set_option maxHeartbeats 4000000 in
theorem bd__law_winds {k : Nat} {g__law_take : FB} (O__law_take : FnOk P w K mg base CX0 k Z.f__law_take Z.fd__law_take [("_law_box_here" : Str), ("_law_size" : Str)] (spB K 2 g__law_take)) {g__law_slope : FB} (O__law_slope : FnOk P w K mg base CX0 k Z.f__law_slope Z.fd__law_slope [("_law_box_here" : Str)] (spB K 1 g__law_slope)) : ∀ (cdv : Value) (A : Around) (outer : List Env) (s : Shared) (H : Hp) (E : XK), Room k (A.deeper (envOfC "_law_winds" (defScope s__law_winds) s.heap.objs.size Z.f__law_winds cdv)) → ∃ t, PPSs (cxOf CX0 P w K mg base NN__law_winds "_law_winds" (defScope s__law_winds) Z.f__law_winds cdv A outer s H E).nox (defBody s__law_winds) t (T__law_winds g__law_take g__law_slope) :=
  fun cdv A outer s H E hr => ⟨_, (ppss_one (pps_ret (ppc_lcL (own := [("_law_turn", 2)]) rfl sc__law_winds.nd (ppi_range1 (by rfl) Z.z_range (ppa_cons (ppe_frz (ppc_callB 0 O__law_take hr (by rfl) Z.m__law_take Z.F__law_take.kp Z.b__law_take (ppa_cons (ppe_add (ppe_var 1) ppe_int) ppa_nil))) ppa_nil)) (blkOk_by (N := NN__law_winds) (sc := defScope s__law_winds) (by decide +kernel)) (fun _ _ _ _ _ => ((ptg_name (i := 2) sc__law_winds.nd)).lift) (fun _ _ _ _ _ => (ppts_nil).lift) (fun _ _ _ _ _ => ((ppe_tup (ppa_cons (ppe_ix (ppe_lst (ppa_cons ppe_str (ppa_cons ppe_str ppa_nil))) (ppe_frz (ppc_callB 0 O__law_take hr (by rfl) Z.m__law_take Z.F__law_take.kp Z.b__law_take (ppa_cons ppe_int ppa_nil)))) (ppa_cons (ppe_frz (ppc_callB 0 O__law_slope hr (by rfl) Z.m__law_slope Z.F__law_slope.kp Z.b__law_slope ppa_nil)) ppa_nil)))).lift))))⟩
set_option maxHeartbeats 4000000 in
theorem bd__law_near {k : Nat} {g__law_take : FB} (O__law_take : FnOk P w K mg base CX0 k Z.f__law_take Z.fd__law_take [("_law_box_here" : Str), ("_law_size" : Str)] (spB K 2 g__law_take)) : ∀ (cdv : Value) (A : Around) (outer : List Env) (s : Shared) (H : Hp) (E : XK), Room k (A.deeper (envOfC "_law_near" (defScope s__law_near) s.heap.objs.size Z.f__law_near cdv)) → ∃ t, PPSs (cxOf CX0 P w K mg base NN__law_near "_law_near" (defScope s__law_near) Z.f__law_near cdv A outer s H E).nox (defBody s__law_near) t (T__law_near_k50 g__law_take) :=
  fun cdv A outer s H E hr => ⟨_, (ppss_cons (pps_asg (ppe_tup (ppa_cons (ppe_frz (ppc_callB 0 O__law_take hr (by rfl) Z.m__law_take Z.F__law_take.kp Z.b__law_take (ppa_cons ppe_int ppa_nil))) (ppa_cons (ppe_frz (ppc_callB 0 O__law_take hr (by rfl) Z.m__law_take Z.F__law_take.kp Z.b__law_take (ppa_cons ppe_int ppa_nil))) ppa_nil))) (ptg_tup (n := 2) rfl (ptgs_cons (ptg_name (i := 2) sc__law_near.nd) (ptgs_cons (ptg_name (i := 3) sc__law_near.nd) ptgs_nil))))
    (ppss_cons (pps_if (ppt_cmp (cm_eq (hu64 hr)) (ppe_var 2) ppe_int (nomark _))
    (ppss_one (pps_ret (ppc_val (ppe_callTy call_tuple_of cp_tup (by rfl) Z.z_tuple (by decide +kernel) (ppa_cons (ppe_lcL (own := [("_law_level", 4)]) rfl sc__law_near.nd (ppi_seq (ppe_var 1)) (blkOk_by (N := NN__law_near) (sc := defScope s__law_near) (by decide +kernel)) (fun _ _ _ _ _ => ((ptg_name (i := 4) sc__law_near.nd)).lift) (fun _ _ _ _ _ => (ppts_nil).lift) (fun _ _ _ _ _ => ((ppe_add (ppe_var 4) (ppe_var 3))).lift)) ppa_nil)))))
    ppss_nil)
    (ppss_cons (pps_if (ppt_cmp (cm_eq (hu64 hr)) (ppe_var 2) ppe_int (nomark _))
    (ppss_one (pps_ret (ppc_val (ppe_callTy call_tuple_of cp_tup (by rfl) Z.z_tuple (by decide +kernel) (ppa_cons (ppe_lcL (own := [("_law_level", 4)]) rfl sc__law_near.nd (ppi_seq (ppe_var 1)) (blkOk_by (N := NN__law_near) (sc := defScope s__law_near) (by decide +kernel)) (fun _ _ _ _ _ => ((ptg_name (i := 4) sc__law_near.nd)).lift) (fun _ _ _ _ _ => (ppts_nil).lift) (fun _ _ _ _ _ => ((ppe_add (ppe_var 4) (ppe_frz (ppc_callB 0 O__law_take hr (by rfl) Z.m__law_take Z.F__law_take.kp Z.b__law_take (ppa_cons ppe_int ppa_nil))))).lift)) ppa_nil)))))
    ppss_nil)
    (ppss_cons (pps_if (ppt_cmp (cm_eq (hu64 hr)) (ppe_var 2) ppe_int (nomark _))
    (ppss_one (pps_ret (ppc_val (ppe_callTy call_tuple_of cp_tup (by rfl) Z.z_tuple (by decide +kernel) (ppa_cons (ppe_lcL (own := [("_law_level", 4)]) rfl sc__law_near.nd (ppi_seq (ppe_var 1)) (blkOk_by (N := NN__law_near) (sc := defScope s__law_near) (by decide +kernel)) (fun _ _ _ _ _ => ((ptg_name (i := 4) sc__law_near.nd)).lift) (fun _ _ _ _ _ => (ppts_nil).lift) (fun _ _ _ _ _ => ((ppe_add (ppe_var 4) (ppe_mul (ppe_sub (ppe_frz (ppc_callB 0 O__law_take hr (by rfl) Z.m__law_take Z.F__law_take.kp Z.b__law_take (ppa_cons ppe_int ppa_nil))) ppe_int) (ppe_callTy call_int1 cp_int1 (by rfl) Z.z_int (by decide +kernel) (ppa_cons (ppe_cmp (cm_eq (hu64 hr)) (ppe_frz (ppc_callB 0 O__law_take hr (by rfl) Z.m__law_take Z.F__law_take.kp Z.b__law_take (ppa_cons ppe_int ppa_nil))) ppe_int (nomark _)) ppa_nil))))).lift)) ppa_nil)))))
    ppss_nil)
    (ppss_one (pps_ret (ppc_val (ppe_callTy call_tuple_of cp_tup (by rfl) Z.z_tuple (by decide +kernel) (ppa_cons (ppe_var 1) ppa_nil)))))))))⟩
set_option maxHeartbeats 4000000 in
theorem bd__law_refused {k : Nat} {g_width : FA} (O_width : FnOk P w K mg base CX0 k Z.f_width Z.fd_width [("one" : Str), ("other" : Str)] (spA K 2 g_width)) {g_widest : FA} (O_widest : FnOk P w K mg base CX0 k Z.f_widest Z.fd_widest [("one" : Str), ("other" : Str)] (spA K 2 g_widest)) {g_is_below : FA} (O_is_below : FnOk P w K mg base CX0 k Z.f_is_below Z.fd_is_below [("one" : Str), ("other" : Str)] (spA K 2 g_is_below)) {g_widths : FA} (O_widths : FnOk P w K mg base CX0 k Z.f_widths Z.fd_widths [("one" : Str), ("other" : Str), ("almanac" : Str)] (spA K 3 g_widths)) {gx_width : FX} (OX_width : FnOk P w K mg base (L2.CX P w) k Z.f_width Z.fd_width [("one" : Str), ("other" : Str)] (spX K 2 gx_width)) {gx_widest : FX} (OX_widest : FnOk P w K mg base (L2.CX P w) k Z.f_widest Z.fd_widest [("one" : Str), ("other" : Str)] (spX K 2 gx_widest)) {gx_is_below : FX} (OX_is_below : FnOk P w K mg base (L2.CX P w) k Z.f_is_below Z.fd_is_below [("one" : Str), ("other" : Str)] (spX K 2 gx_is_below)) {gx_widths : FX} (OX_widths : FnOk P w K mg base (L2.CX P w) k Z.f_widths Z.fd_widths [("one" : Str), ("other" : Str), ("almanac" : Str)] (spX K 3 gx_widths)) : ∀ (cdv : Value) (A : Around) (outer : List Env) (s : Shared) (H : Hp) (E : XK), Room k (A.deeper (envOfC "_law_refused" (defScope s__law_refused) s.heap.objs.size Z.f__law_refused cdv)) → ∃ t, PPSs (cxOf CX0 P w K mg base NN__law_refused "_law_refused" (defScope s__law_refused) Z.f__law_refused cdv A outer s H E).nox (defBody s__law_refused) t (T__law_refused g_width g_widest g_is_below g_widths gx_width gx_widest gx_is_below gx_widths) :=
  fun cdv A outer s H E hr => ⟨_, (ppss_cons (pps_set (i := 3) sc__law_refused.nd (ppc_val ppe_non))
    (pss_tryIs (i := 4) (j := 3) rfl rfl rfl sc__law_refused.nd rfl rfl rfl rfl (fun W pn xe tk po => ((pxss_one (pxs_if (ppt_cmp (cm_eq (hu64 hr)) (ppe_var 2) ppe_int (nomark _))
    (pxss_one (pxs_or (pps_expr (ppe_frz (ppc_callA O_width hr (by rfl) Z.m_width Z.F_width.kp Z.b_width (ppa_cons (ppe_var 0) (ppa_cons (ppe_var 1) ppa_nil)))))
    (pxs_expr (pxe_call OX_width tk hr (by rfl) Z.m_width Z.F_width.kp Z.b_width (ppa_cons (ppe_var 0) (ppa_cons (ppe_var 1) ppa_nil))))))
    (pxss_one (pxs_if (ppt_cmp (cm_eq (hu64 hr)) (ppe_var 2) ppe_int (nomark _))
    (pxss_one (pxs_or (pps_expr (ppe_frz (ppc_callA O_widest hr (by rfl) Z.m_widest Z.F_widest.kp Z.b_widest (ppa_cons (ppe_var 0) (ppa_cons (ppe_var 1) ppa_nil)))))
    (pxs_expr (pxe_call OX_widest tk hr (by rfl) Z.m_widest Z.F_widest.kp Z.b_widest (ppa_cons (ppe_var 0) (ppa_cons (ppe_var 1) ppa_nil))))))
    (pxss_one (pxs_if (ppt_cmp (cm_eq (hu64 hr)) (ppe_var 2) ppe_int (nomark _))
    (pxss_one (pxs_or (pps_expr (ppe_frz (ppc_callA O_is_below hr (by rfl) Z.m_is_below Z.F_is_below.kp Z.b_is_below (ppa_cons (ppe_var 0) (ppa_cons (ppe_var 1) ppa_nil)))))
    (pxs_expr (pxe_call OX_is_below tk hr (by rfl) Z.m_is_below Z.F_is_below.kp Z.b_is_below (ppa_cons (ppe_var 0) (ppa_cons (ppe_var 1) ppa_nil))))))
    (pxss_one (pxs_or (pps_expr (ppe_frz (ppc_callA O_widths hr (by rfl) Z.m_widths Z.F_widths.kp Z.b_widths (ppa_cons (ppe_var 0) (ppa_cons (ppe_var 1) (ppa_cons (ppe_lst ppa_nil) ppa_nil))))))
    (pxs_expr (pxe_call OX_widths tk hr (by rfl) Z.m_widths Z.F_widths.kp Z.b_widths (ppa_cons (ppe_var 0) (ppa_cons (ppe_var 1) (ppa_cons (ppe_lst ppa_nil) ppa_nil)))))))))))))).lift)
    (hit1 Z.x_Unlike (by rfl)) (xcs_cons Z.x_Unlike xcs_nil) (itx_blt (n := "ValueError") (by rfl) Z.z_ValueError) (by rfl) Z.z_isinstance))⟩
set_option maxHeartbeats 4000000 in
theorem bd_law {k : Nat} {g_width : FA} (O_width : FnOk P w K mg base CX0 k Z.f_width Z.fd_width [("one" : Str), ("other" : Str)] (spA K 2 g_width)) {g_widest : FA} (O_widest : FnOk P w K mg base CX0 k Z.f_widest Z.fd_widest [("one" : Str), ("other" : Str)] (spA K 2 g_widest)) {g_is_below : FA} (O_is_below : FnOk P w K mg base CX0 k Z.f_is_below Z.fd_is_below [("one" : Str), ("other" : Str)] (spA K 2 g_is_below)) {g_widths : FA} (O_widths : FnOk P w K mg base CX0 k Z.f_widths Z.fd_widths [("one" : Str), ("other" : Str), ("almanac" : Str)] (spA K 3 g_widths)) {g__law_box : FA} (O__law_box : FnOk P w K mg base CX0 k Z.f__law_box Z.fd__law_box [("_law_script" : Str), ("_law_k" : Str)] (spA K 2 g__law_box)) {g__law_take : FB} (O__law_take : FnOk P w K mg base CX0 k Z.f__law_take Z.fd__law_take [("_law_box_here" : Str), ("_law_size" : Str)] (spB K 2 g__law_take)) {g__law_same : FA} (O__law_same : FnOk P w K mg base CX0 k Z.f__law_same Z.fd__law_same [("_law_told" : Str), ("_law_due" : Str)] (spA K 2 g__law_same)) {g__law_blown : FA} (O__law_blown : FnOk P w K mg base CX0 k Z.f__law_blown Z.fd__law_blown [("_law_hill" : Str), ("_law_gust" : Str)] (spA K 2 g__law_blown)) {g__law_dune : FB} (O__law_dune : FnOk P w K mg base CX0 k Z.f__law_dune Z.fd__law_dune [("_law_box_here" : Str), ("_law_size" : Str)] (spB K 2 g__law_dune)) {g__law_winds : FB} (O__law_winds : FnOk P w K mg base CX0 k Z.f__law_winds Z.fd__law_winds [("_law_box_here" : Str), ("_law_size" : Str)] (spB K 2 g__law_winds)) {g__law_near : FB} (O__law_near : FnOk P w K mg base CX0 k Z.f__law_near Z.fd__law_near [("_law_box_here" : Str), ("_law_hill" : Str)] (spB K 2 g__law_near)) {g__law_refused : FA} (O__law_refused : FnOk P w K mg base CX0 k Z.f__law_refused Z.fd__law_refused [("_law_here" : Str), ("_law_two" : Str), ("_law_way" : Str)] (spA K 3 g__law_refused)) : ∀ (cdv : Value) (A : Around) (outer : List Env) (s : Shared) (H : Hp) (E : XK), Room k (A.deeper (envOfC "law" (defScope s_law) s.heap.objs.size Z.f_law cdv)) → ∃ t, PPSs (cxOf CX0 P w K mg base NN_law "law" (defScope s_law) Z.f_law cdv A outer s H E).nox (defBody s_law) t (T_law g_width g_widest g_is_below g_widths g__law_box g__law_take g__law_same g__law_blown g__law_dune g__law_winds g__law_near g__law_refused) :=
  fun cdv A outer s H E hr => ⟨_, (ppss_cons (pps_for PassesOwn.never rfl (ppi_range1 (by rfl) Z.z_range (ppa_cons (ppe_add ppe_int (ppe_callB (call_min2 rfl) cp_min2 (by rfl) Z.z_min (by decide +kernel) (ppa_cons ppe_int (ppa_cons (ppe_lenO 0 (by rfl) Z.z_len) ppa_nil)))) ppa_nil)) (ptg_name (i := 1) sc_law.nd)
    (ppss_cons (pps_set (i := 2) sc_law.nd (ppc_callA O__law_box hr (by rfl) Z.m__law_box Z.F__law_box.kp Z.b__law_box (ppa_cons (ppe_var 0) (ppa_cons (ppe_var 1) ppa_nil))))
    (ppss_one (pps_for PassesOwn.never rfl (ppi_range1 (by rfl) Z.z_range (ppa_cons ppe_int ppa_nil)) (ptg_name (i := 3) sc_law.nd)
    (ppss_cons (pps_asg (ppe_tup (ppa_cons (ppe_frz (ppc_callB 2 O__law_dune hr (by rfl) Z.m__law_dune Z.F__law_dune.kp Z.b__law_dune (ppa_cons ppe_int ppa_nil))) (ppa_cons (ppe_frz (ppc_callB 2 O__law_winds hr (by rfl) Z.m__law_winds Z.F__law_winds.kp Z.b__law_winds (ppa_cons ppe_int ppa_nil))) ppa_nil))) (ptg_tup (n := 2) rfl (ptgs_cons (ptg_name (i := 4) sc_law.nd) (ptgs_cons (ptg_name (i := 5) sc_law.nd) ptgs_nil))))
    (ppss_cons (pps_set (i := 6) sc_law.nd (ppc_callB 2 O__law_near hr (by rfl) Z.m__law_near Z.F__law_near.kp Z.b__law_near (ppa_cons (ppe_var 4) ppa_nil)))
    (ppss_cons (pps_setLcV (i := 9) (own := [("_law_mine", 7), ("_law_its", 8)]) rfl sc_law.nd (ppi_z2 (by rfl) Z.z_zip (ppa_cons (ppe_var 4) (ppa_cons (ppe_var 6) ppa_nil))) (blkOk_by (N := NN_law) (sc := defScope s_law) (by decide +kernel)) (fun _ _ _ _ _ => ((ptg_tup (n := 2) rfl (ptgs_cons (ptg_name (i := 7) sc_law.nd) (ptgs_cons (ptg_name (i := 8) sc_law.nd) ptgs_nil)))).lift) (fun _ _ _ _ _ => (ppts_nil).lift) (fun _ _ _ _ _ => ((ppe_callB call_abs cp_abs (by rfl) Z.z_abs (by decide +kernel) (ppa_cons (ppe_sub (ppe_var 7) (ppe_var 8)) ppa_nil))).lift))
    (ppss_cons (pps_set (i := 10) sc_law.nd (ppc_lst (ppa_cons (ppe_frz (ppc_callA O_width hr (by rfl) Z.m_width Z.F_width.kp Z.b_width (ppa_cons (ppe_var 4) (ppa_cons (ppe_var 6) ppa_nil)))) (ppa_cons (ppe_frz (ppc_callK (ks := [("other" : Str), ("one" : Str)]) (is := [1, 0]) O_width hr (by rfl) Z.m_width Z.F_width.kp (fun_kbn Z.F_width [("other" : Str), ("one" : Str)] [1, 0] (fun _ _ _ _ _ _ ws hl => match ws, hl with | [_, _], _ => rfl)) (ppk_cons (ppe_callTy call_list_of cp_lst (by rfl) Z.z_list (by decide +kernel) (ppa_cons (ppe_var 4) ppa_nil)) (ppk_cons (ppe_var 6) ppk_nil)))) ppa_nil))))
    (ppss_cons (pps_set (i := 10) sc_law.nd (ppc_val (ppe_add (ppe_var 10) (ppe_lst (ppa_cons (ppe_frz (ppc_callA O_widest hr (by rfl) Z.m_widest Z.F_widest.kp Z.b_widest (ppa_cons (ppe_var 4) (ppa_cons (ppe_var 6) ppa_nil)))) (ppa_cons (ppe_frz (ppc_callK (ks := [("other" : Str), ("one" : Str)]) (is := [1, 0]) O_widest hr (by rfl) Z.m_widest Z.F_widest.kp (fun_kbn Z.F_widest [("other" : Str), ("one" : Str)] [1, 0] (fun _ _ _ _ _ _ ws hl => match ws, hl with | [_, _], _ => rfl)) (ppk_cons (ppe_var 4) (ppk_cons (ppe_callTy call_list_of cp_lst (by rfl) Z.z_list (by decide +kernel) (ppa_cons (ppe_var 6) ppa_nil)) ppk_nil)))) ppa_nil))))))
    (ppss_cons (pps_if (ppt_not (ppt_val (ppe_peek (ppe_frz (ppc_callA O__law_same hr (by rfl) Z.m__law_same Z.F__law_same.kp Z.b__law_same (ppa_cons (ppe_var 10) (ppa_cons (ppe_add (ppe_rep (ppe_lst (ppa_cons (ppe_callB (cr_maxA rfl (hu64 hr)) cp_best (by rfl) Z.z_max (by decide +kernel) (ppa_cons (ppe_var 9) ppa_nil)) ppa_nil)) ppe_int) (ppe_rep (ppe_lst (ppa_cons (ppe_index (hu65 hr) (ppe_var 9) (ppe_callB (cr_maxA rfl (hu64 hr)) cp_best (by rfl) Z.z_max (by decide +kernel) (ppa_cons (ppe_var 9) ppa_nil))) ppa_nil)) ppe_int)) ppa_nil)))))))
    (ppss_one (pps_ret (ppc_val ppe_bl)))
    ppss_nil)
    (ppss_cons (pps_set (i := 11) sc_law.nd (ppc_lst (ppa_cons (ppe_callB (cr_all rfl) cp_all (by rfl) Z.z_all (by decide +kernel) (ppa_cons (ppe_lcL (own := [("_law_mine", 7), ("_law_its", 8)]) rfl sc_law.nd (ppi_z2 (by rfl) Z.z_zip (ppa_cons (ppe_var 4) (ppa_cons (ppe_var 6) ppa_nil))) (blkOk_by (N := NN_law) (sc := defScope s_law) (by decide +kernel)) (fun _ _ _ _ _ => ((ptg_tup (n := 2) rfl (ptgs_cons (ptg_name (i := 7) sc_law.nd) (ptgs_cons (ptg_name (i := 8) sc_law.nd) ptgs_nil)))).lift) (fun _ _ _ _ _ => (ppts_nil).lift) (fun _ _ _ _ _ => ((ppe_cmp cm_le (ppe_var 7) (ppe_var 8) (nomark _))).lift)) ppa_nil)) ppa_nil)))
    (ppss_cons (pps_append 11 (ppe_callB (cr_all rfl) cp_all (by rfl) Z.z_all (by decide +kernel) (ppa_cons (ppe_lcL (own := [("_law_mine", 7), ("_law_its", 8)]) rfl sc_law.nd (ppi_z2 (by rfl) Z.z_zip (ppa_cons (ppe_var 4) (ppa_cons (ppe_var 6) ppa_nil))) (blkOk_by (N := NN_law) (sc := defScope s_law) (by decide +kernel)) (fun _ _ _ _ _ => ((ptg_tup (n := 2) rfl (ptgs_cons (ptg_name (i := 7) sc_law.nd) (ptgs_cons (ptg_name (i := 8) sc_law.nd) ptgs_nil)))).lift) (fun _ _ _ _ _ => (ppts_nil).lift) (fun _ _ _ _ _ => ((ppe_cmp cm_ge (ppe_var 7) (ppe_var 8) (nomark _))).lift)) ppa_nil)))
    (ppss_cons (pps_if (ppt_not (ppt_val (ppe_peek (ppe_frz (ppc_callA O__law_same hr (by rfl) Z.m__law_same Z.F__law_same.kp Z.b__law_same (ppa_cons (ppe_lst (ppa_cons (ppe_frz (ppc_callA O_is_below hr (by rfl) Z.m_is_below Z.F_is_below.kp Z.b_is_below (ppa_cons (ppe_var 4) (ppa_cons (ppe_var 6) ppa_nil)))) (ppa_cons (ppe_frz (ppc_callK (ks := [("other" : Str), ("one" : Str)]) (is := [1, 0]) O_is_below hr (by rfl) Z.m_is_below Z.F_is_below.kp (fun_kbn Z.F_is_below [("other" : Str), ("one" : Str)] [1, 0] (fun _ _ _ _ _ _ ws hl => match ws, hl with | [_, _], _ => rfl)) (ppk_cons (ppe_var 4) (ppk_cons (ppe_callTy call_list_of cp_lst (by rfl) Z.z_list (by decide +kernel) (ppa_cons (ppe_var 6) ppa_nil)) ppk_nil)))) ppa_nil))) (ppa_cons (ppe_var 11) ppa_nil)))))))
    (ppss_one (pps_ret (ppc_val ppe_bl)))
    ppss_nil)
    (ppss_cons (pps_parC3 (i := 11) (j := 7) (l := 8) rfl sc_law.nd (ppcs_cons (ppc_lst (ppa_cons (ppe_callB (cr_maxA rfl (hu64 hr)) cp_best (by rfl) Z.z_max (by decide +kernel) (ppa_cons (ppe_var 9) ppa_nil)) ppa_nil)) (ppcs_cons (ppc_val (ppe_var 4)) (ppcs_cons (ppc_val (ppe_var 6)) ppcs_nil))))
    (ppss_cons (pps_for PassesOwn.never rfl (ppi_seq (ppe_var 5)) (ptg_name (i := 12) sc_law.nd)
    (ppss_cons (pps_par (i := 7) (j := 8) rfl sc_law.nd (ppa_cons (ppe_frz (ppc_callA O__law_blown hr (by rfl) Z.m__law_blown Z.F__law_blown.kp Z.b__law_blown (ppa_cons (ppe_var 7) (ppa_cons (ppe_var 12) ppa_nil)))) (ppa_cons (ppe_frz (ppc_callA O__law_blown hr (by rfl) Z.m__law_blown Z.F__law_blown.kp Z.b__law_blown (ppa_cons (ppe_var 8) (ppa_cons (ppe_var 12) ppa_nil)))) ppa_nil)))
    (ppss_one (pps_append 11 (ppe_callB (cr_maxA rfl (hu64 hr)) cp_best (by rfl) Z.z_max (by decide +kernel) (ppa_cons (ppe_lcL (own := [("_law_first", 13), ("_law_last", 14)]) rfl sc_law.nd (ppi_z2 (by rfl) Z.z_zip (ppa_cons (ppe_var 7) (ppa_cons (ppe_var 8) ppa_nil))) (blkOk_by (N := NN_law) (sc := defScope s_law) (by decide +kernel)) (fun _ _ _ _ _ => ((ptg_tup (n := 2) rfl (ptgs_cons (ptg_name (i := 13) sc_law.nd) (ptgs_cons (ptg_name (i := 14) sc_law.nd) ptgs_nil)))).lift) (fun _ _ _ _ _ => (ppts_nil).lift) (fun _ _ _ _ _ => ((ppe_callB call_abs cp_abs (by rfl) Z.z_abs (by decide +kernel) (ppa_cons (ppe_sub (ppe_var 13) (ppe_var 14)) ppa_nil))).lift)) ppa_nil))))))
    (ppss_cons (pps_set (i := 10) sc_law.nd (ppc_callA O_widths hr (by rfl) Z.m_widths Z.F_widths.kp Z.b_widths (ppa_cons (ppe_var 4) (ppa_cons (ppe_var 6) (ppa_cons (ppe_var 5) ppa_nil)))))
    (ppss_cons (pps_if (ppt_not (ppt_val (ppe_peek (ppe_frz (ppc_callA O__law_same hr (by rfl) Z.m__law_same Z.F__law_same.kp Z.b__law_same (ppa_cons (ppe_lst (ppa_cons (ppe_var 10) (ppa_cons (ppe_frz (ppc_callK (ks := [("almanac" : Str), ("other" : Str), ("one" : Str)]) (is := [2, 1, 0]) O_widths hr (by rfl) Z.m_widths Z.F_widths.kp (fun_kbn Z.F_widths [("almanac" : Str), ("other" : Str), ("one" : Str)] [2, 1, 0] (fun _ _ _ _ _ _ ws hl => match ws, hl with | [_, _, _], _ => rfl)) (ppk_cons (ppe_callTy call_tuple_of cp_tup (by rfl) Z.z_tuple (by decide +kernel) (ppa_cons (ppe_var 5) ppa_nil)) (ppk_cons (ppe_callTy call_list_of cp_lst (by rfl) Z.z_list (by decide +kernel) (ppa_cons (ppe_var 6) ppa_nil)) (ppk_cons (ppe_var 4) ppk_nil))))) ppa_nil))) (ppa_cons (ppe_lst (ppa_cons (ppe_var 11) (ppa_cons (ppe_var 11) ppa_nil))) ppa_nil)))))))
    (ppss_one (pps_ret (ppc_val ppe_bl)))
    ppss_nil)
    (ppss_cons (pps_reverse 10)
    (ppss_cons (pps_append 10 (ppe_neg ppe_int))
    (ppss_cons (pps_if (ppt_not (ppt_val (ppe_peek (ppe_frz (ppc_callA O__law_same hr (by rfl) Z.m__law_same Z.F__law_same.kp Z.b__law_same (ppa_cons (ppe_frz (ppc_callA O_widths hr (by rfl) Z.m_widths Z.F_widths.kp Z.b_widths (ppa_cons (ppe_var 4) (ppa_cons (ppe_var 6) (ppa_cons (ppe_var 5) ppa_nil))))) (ppa_cons (ppe_var 11) ppa_nil)))))))
    (ppss_one (pps_ret (ppc_val ppe_bl)))
    ppss_nil)
    (ppss_cons (pps_set (i := 15) sc_law.nd (ppc_val (ppe_add (ppe_var 4) (ppe_tup (ppa_cons (ppe_frz (ppc_callB 2 O__law_take hr (by rfl) Z.m__law_take Z.F__law_take.kp Z.b__law_take (ppa_cons ppe_int ppa_nil))) ppa_nil)))))
    (ppss_one (pps_if (ppt_not (ppt_val (ppe_callB (cr_all rfl) cp_all (by rfl) Z.z_all (by decide +kernel) (ppa_cons (ppe_lcL (own := [("_law_way", 16)]) rfl sc_law.nd (ppi_range1 (by rfl) Z.z_range (ppa_cons ppe_int ppa_nil)) (blkOk_by (N := NN_law) (sc := defScope s_law) (by decide +kernel)) (fun _ _ _ _ _ => ((ptg_name (i := 16) sc_law.nd)).lift) (fun _ _ _ _ _ => (ppts_nil).lift) (fun _ _ _ _ _ => ((ppe_and (ppe_frz (ppc_callA O__law_refused hr (by rfl) Z.m__law_refused Z.F__law_refused.kp Z.b__law_refused (ppa_cons (ppe_var 4) (ppa_cons (ppe_var 15) (ppa_cons (ppe_var 16) ppa_nil))))) (ppe_one (ppe_frz (ppc_callA O__law_refused hr (by rfl) Z.m__law_refused Z.F__law_refused.kp Z.b__law_refused (ppa_cons (ppe_var 15) (ppa_cons (ppe_var 4) (ppa_cons (ppe_var 16) ppa_nil)))))))).lift)) ppa_nil))))
    (ppss_one (pps_ret (ppc_val ppe_bl)))
    ppss_nil)))))))))))))))))))))))
    (ppss_one (pps_ret (ppc_val ppe_bl))))⟩
set_option maxHeartbeats 4000000 in
theorem bdx_width {k : Nat} {g_gaps : FA} (O_gaps : FnOk P w K mg base CX0 k Z.f_gaps Z.fd_gaps [("one" : Str), ("other" : Str)] (spA K 2 g_gaps)) {gx_gaps : FX} (OX_gaps : FnOk P w K mg base (L2.CX P w) k Z.f_gaps Z.fd_gaps [("one" : Str), ("other" : Str)] (spX K 2 gx_gaps)) : ∀ (cdv : Value) (A : Around) (outer : List Env) (s : Shared) (H : Hp) (E : XK), Room (k + 1) (A.deeper (envOfC "width" (defScope s_width) s.heap.objs.size Z.f_width cdv)) → ∃ t, PXSs (cxOf (L2.CX P w) P w K mg base NN_width "width" (defScope s_width) Z.f_width cdv A outer s H E) (fun cls d _ H => E cls d H) (defBody s_width) t (TX_width g_gaps gx_gaps) :=
  fun cdv A outer s H E hr => ⟨_, (pxss_one (pxs_or (pps_ret (ppc_val (ppe_callB (cr_maxA rfl (hu64 (hr.mono (Nat.le_succ _)))) cp_best (by rfl) Z.z_max (by decide +kernel) (ppa_cons (ppe_frz (ppc_callA O_gaps (hr.mono (Nat.le_succ _)) (by rfl) Z.m_gaps Z.F_gaps.kp Z.b_gaps (ppa_cons (ppe_var 0) (ppa_cons (ppe_var 1) ppa_nil)))) ppa_nil))))
    (pxs_ret (pxe_argB (cr_maxA rfl (hu64 (hr.mono (Nat.le_succ _)))) (by rfl) Z.z_max (by decide +kernel) (pxa_here (pxe_call OX_gaps (takes_of rfl rfl rfl rfl) (hr.mono (Nat.le_succ _)) (by rfl) Z.m_gaps Z.F_gaps.kp Z.b_gaps (ppa_cons (ppe_var 0) (ppa_cons (ppe_var 1) ppa_nil))) ppa_nil)))))⟩
set_option maxHeartbeats 4000000 in
theorem bdx_widest {k : Nat} {g_gaps : FA} (O_gaps : FnOk P w K mg base CX0 k Z.f_gaps Z.fd_gaps [("one" : Str), ("other" : Str)] (spA K 2 g_gaps)) {g_width : FA} (O_width : FnOk P w K mg base CX0 k Z.f_width Z.fd_width [("one" : Str), ("other" : Str)] (spA K 2 g_width)) {gx_gaps : FX} (OX_gaps : FnOk P w K mg base (L2.CX P w) k Z.f_gaps Z.fd_gaps [("one" : Str), ("other" : Str)] (spX K 2 gx_gaps)) : ∀ (cdv : Value) (A : Around) (outer : List Env) (s : Shared) (H : Hp) (E : XK), Room (k + 1) (A.deeper (envOfC "widest" (defScope s_widest) s.heap.objs.size Z.f_widest cdv)) → ∃ t, PXSs (cxOf (L2.CX P w) P w K mg base NN_widest "widest" (defScope s_widest) Z.f_widest cdv A outer s H E) (fun cls d _ H => E cls d H) (defBody s_widest) t (TX_widest g_gaps g_width gx_gaps) :=
  fun cdv A outer s H E hr => ⟨_, (pxss_one (pxs_or (pps_ret (ppc_val (ppe_index (hu65 (hr.mono (Nat.le_succ _))) (ppe_frz (ppc_callA O_gaps (hr.mono (Nat.le_succ _)) (by rfl) Z.m_gaps Z.F_gaps.kp Z.b_gaps (ppa_cons (ppe_var 0) (ppa_cons (ppe_var 1) ppa_nil)))) (ppe_frz (ppc_callA O_width (hr.mono (Nat.le_succ _)) (by rfl) Z.m_width Z.F_width.kp Z.b_width (ppa_cons (ppe_var 0) (ppa_cons (ppe_var 1) ppa_nil)))))))
    (pxs_ret (pxe_index (hu65 (hr.mono (Nat.le_succ _))) (pxe_call OX_gaps (takes_of rfl rfl rfl rfl) (hr.mono (Nat.le_succ _)) (by rfl) Z.m_gaps Z.F_gaps.kp Z.b_gaps (ppa_cons (ppe_var 0) (ppa_cons (ppe_var 1) ppa_nil))) (ppe_frz (ppc_callA O_width (hr.mono (Nat.le_succ _)) (by rfl) Z.m_width Z.F_width.kp Z.b_width (ppa_cons (ppe_var 0) (ppa_cons (ppe_var 1) ppa_nil))))))))⟩
set_option maxHeartbeats 4000000 in
theorem bdx_is_below {k : Nat} {g_rises : FA} (O_rises : FnOk P w K mg base CX0 k Z.f_rises Z.fd_rises [("one" : Str), ("other" : Str)] (spA K 2 g_rises)) {gx_rises : FX} (OX_rises : FnOk P w K mg base (L2.CX P w) k Z.f_rises Z.fd_rises [("one" : Str), ("other" : Str)] (spX K 2 gx_rises)) : ∀ (cdv : Value) (A : Around) (outer : List Env) (s : Shared) (H : Hp) (E : XK), Room (k + 1) (A.deeper (envOfC "is_below" (defScope s_is_below) s.heap.objs.size Z.f_is_below cdv)) → ∃ t, PXSs (cxOf (L2.CX P w) P w K mg base NN_is_below "is_below" (defScope s_is_below) Z.f_is_below cdv A outer s H E) (fun cls d _ H => E cls d H) (defBody s_is_below) t (TX_is_below g_rises gx_rises) :=
  fun cdv A outer s H E hr => ⟨_, (pxss_one (pxs_or (pps_ret (ppc_val (ppe_cmp cm_ge (ppe_callB (cr_minA rfl (hu64 (hr.mono (Nat.le_succ _)))) cp_best (by rfl) Z.z_min (by decide +kernel) (ppa_cons (ppe_frz (ppc_callA O_rises (hr.mono (Nat.le_succ _)) (by rfl) Z.m_rises Z.F_rises.kp Z.b_rises (ppa_cons (ppe_var 0) (ppa_cons (ppe_var 1) ppa_nil)))) ppa_nil)) ppe_int (nomark _))))
    (pxs_ret (pxe_cmp cm_ge (pxe_argB (cr_minA rfl (hu64 (hr.mono (Nat.le_succ _)))) (by rfl) Z.z_min (by decide +kernel) (pxa_here (pxe_call OX_rises (takes_of rfl rfl rfl rfl) (hr.mono (Nat.le_succ _)) (by rfl) Z.m_rises Z.F_rises.kp Z.b_rises (ppa_cons (ppe_var 0) (ppa_cons (ppe_var 1) ppa_nil))) ppa_nil)) ppe_int (nomark _)))))⟩
set_option maxHeartbeats 4000000 in
theorem bdx_widths {k : Nat} {g_days : FA} (O_days : FnOk P w K mg base CX0 k Z.f_days Z.fd_days [("dune" : Str), ("almanac" : Str)] (spA K 2 g_days)) {g_width : FA} (O_width : FnOk P w K mg base CX0 k Z.f_width Z.fd_width [("one" : Str), ("other" : Str)] (spA K 2 g_width)) {gx_width : FX} (OX_width : FnOk P w K mg base (L2.CX P w) k Z.f_width Z.fd_width [("one" : Str), ("other" : Str)] (spX K 2 gx_width)) : ∀ (cdv : Value) (A : Around) (outer : List Env) (s : Shared) (H : Hp) (E : XK), Room (k + 1) (A.deeper (envOfC "widths" (defScope s_widths) s.heap.objs.size Z.f_widths cdv)) → ∃ t, PXSs (cxOf (L2.CX P w) P w K mg base NN_widths "widths" (defScope s_widths) Z.f_widths cdv A outer s H E) (fun cls d _ H => E cls d H) (defBody s_widths) t (TX_widths g_days g_width gx_width) :=
  fun cdv A outer s H E hr => ⟨_, (pxss_one (pxs_or (pps_ret (ppc_lcL (own := [("here", 3), ("there", 4)]) rfl sc_widths.nd (ppi_z2 (by rfl) Z.z_zip (ppa_cons (ppe_frz (ppc_callA O_days (hr.mono (Nat.le_succ _)) (by rfl) Z.m_days Z.F_days.kp Z.b_days (ppa_cons (ppe_var 0) (ppa_cons (ppe_var 2) ppa_nil)))) (ppa_cons (ppe_frz (ppc_callA O_days (hr.mono (Nat.le_succ _)) (by rfl) Z.m_days Z.F_days.kp Z.b_days (ppa_cons (ppe_var 1) (ppa_cons (ppe_var 2) ppa_nil)))) ppa_nil))) (blkOk_by (N := NN_widths) (sc := defScope s_widths) (by decide +kernel)) (fun _ _ _ _ _ => ((ptg_tup (n := 2) rfl (ptgs_cons (ptg_name (i := 3) sc_widths.nd) (ptgs_cons (ptg_name (i := 4) sc_widths.nd) ptgs_nil)))).lift) (fun _ _ _ _ _ => (ppts_nil).lift) (fun _ _ _ _ _ => ((ppe_frz (ppc_callA O_width (hr.mono (Nat.le_succ _)) (by rfl) Z.m_width Z.F_width.kp Z.b_width (ppa_cons (ppe_var 3) (ppa_cons (ppe_var 4) ppa_nil))))).lift)))
    (pxs_ret (pxe_lcX (own := [("here", 3), ("there", 4)]) rfl rfl rfl sc_widths.nd (takes_of rfl rfl rfl rfl) (ppi_z2 (by rfl) Z.z_zip (ppa_cons (ppe_frz (ppc_callA O_days (hr.mono (Nat.le_succ _)) (by rfl) Z.m_days Z.F_days.kp Z.b_days (ppa_cons (ppe_var 0) (ppa_cons (ppe_var 2) ppa_nil)))) (ppa_cons (ppe_frz (ppc_callA O_days (hr.mono (Nat.le_succ _)) (by rfl) Z.m_days Z.F_days.kp Z.b_days (ppa_cons (ppe_var 1) (ppa_cons (ppe_var 2) ppa_nil)))) ppa_nil))) (blkOk_by (N := NN_widths) (sc := defScope s_widths) (by decide +kernel)) (fun _ _ _ _ _ => ((ptg_tup (n := 2) rfl (ptgs_cons (ptg_name (i := 3) sc_widths.nd) (ptgs_cons (ptg_name (i := 4) sc_widths.nd) ptgs_nil)))).lift) OX_width (hr.mono (Nat.le_succ _)) (fun _ _ _ _ _ => by rfl) Z.m_width Z.F_width.kp Z.b_width (fun _ _ _ _ _ _ _ => ((ppa_cons (ppe_var 3) (ppa_cons (ppe_var 4) ppa_nil))).lift)))))⟩
set_option maxHeartbeats 4000000 in
theorem bdx_gaps {k : Nat} {g_rises : FA} (O_rises : FnOk P w K mg base CX0 k Z.f_rises Z.fd_rises [("one" : Str), ("other" : Str)] (spA K 2 g_rises)) {gx_rises : FX} (OX_rises : FnOk P w K mg base (L2.CX P w) k Z.f_rises Z.fd_rises [("one" : Str), ("other" : Str)] (spX K 2 gx_rises)) : ∀ (cdv : Value) (A : Around) (outer : List Env) (s : Shared) (H : Hp) (E : XK), Room (k + 1) (A.deeper (envOfC "gaps" (defScope s_gaps) s.heap.objs.size Z.f_gaps cdv)) → ∃ t, PXSs (cxOf (L2.CX P w) P w K mg base NN_gaps "gaps" (defScope s_gaps) Z.f_gaps cdv A outer s H E) (fun cls d _ H => E cls d H) (defBody s_gaps) t (TX_gaps g_rises gx_rises) :=
  fun cdv A outer s H E hr => ⟨_, (pxss_one (pxs_or (pps_ret (ppc_lcL (own := [("rise", 2)]) rfl sc_gaps.nd (ppi_seq (ppe_frz (ppc_callA O_rises (hr.mono (Nat.le_succ _)) (by rfl) Z.m_rises Z.F_rises.kp Z.b_rises (ppa_cons (ppe_var 0) (ppa_cons (ppe_var 1) ppa_nil))))) (blkOk_by (N := NN_gaps) (sc := defScope s_gaps) (by decide +kernel)) (fun _ _ _ _ _ => ((ptg_name (i := 2) sc_gaps.nd)).lift) (fun _ _ _ _ _ => (ppts_nil).lift) (fun _ _ _ _ _ => ((ppe_callB call_abs cp_abs (by rfl) Z.z_abs (by decide +kernel) (ppa_cons (ppe_var 2) ppa_nil))).lift)))
    (pxs_ret (pxe_lc (own := [("rise", 2)]) rfl sc_gaps.nd (pxi_seq (pxe_call OX_rises (takes_of rfl rfl rfl rfl) (hr.mono (Nat.le_succ _)) (by rfl) Z.m_rises Z.F_rises.kp Z.b_rises (ppa_cons (ppe_var 0) (ppa_cons (ppe_var 1) ppa_nil)))) (blkOk_by (N := NN_gaps) (sc := defScope s_gaps) (by decide +kernel)) (fun _ _ _ _ _ => ((ptg_name (i := 2) sc_gaps.nd)).lift) (fun _ _ _ _ _ => (ppts_nil).lift) (fun _ _ _ _ _ => ((ppe_callB call_abs cp_abs (by rfl) Z.z_abs (by decide +kernel) (ppa_cons (ppe_var 2) ppa_nil))).lift)))))⟩
set_option maxHeartbeats 4000000 in
theorem bdx_rises {k : Nat} (OI_Unlike : FnOk P w K mg base CX0 k Z.fI_Unlike Z.fdI_Unlike ["self"] (spI0 Z.C_Unlike)) : ∀ (cdv : Value) (A : Around) (outer : List Env) (s : Shared) (H : Hp) (E : XK), Room (k + 1) (A.deeper (envOfC "rises" (defScope s_rises) s.heap.objs.size Z.f_rises cdv)) → ∃ t, PXSs (cxOf (L2.CX P w) P w K mg base NN_rises "rises" (defScope s_rises) Z.f_rises cdv A outer s H E) (fun cls d _ H => E cls d H) (defBody s_rises) t (TX_rises) :=
  fun cdv A outer s H E hr => ⟨_, (pxss_cons (pxs_if (ppt_cmp (cm_ne (hu64 (hr.mono (Nat.le_succ _)))) (ppe_lenO 0 (by rfl) Z.z_len) (ppe_lenO 1 (by rfl) Z.z_len) (nomark _))
    (pxss_one (pxs_raise0 rfl (takes_of rfl rfl rfl rfl) (XB.over (xb "Unlike")) Z.x_Unlike.own Z.x_Unlike.ns Z.iC_Unlike Z.tI_Unlike OI_Unlike hr Z.bI_Unlike (by rfl) Z.x_Unlike.gm))
    pxss_nil)
    (pxss_one (pxs_ok (pps_ret (ppc_val (ppe_callTy call_tuple_of cp_tup (by rfl) Z.z_tuple (by decide +kernel) (ppa_cons (ppe_lcL (own := [("here", 2), ("there", 3)]) rfl sc_rises.nd (ppi_z2 (by rfl) Z.z_zip (ppa_cons (ppe_var 0) (ppa_cons (ppe_var 1) ppa_nil))) (blkOk_by (N := NN_rises) (sc := defScope s_rises) (by decide +kernel)) (fun _ _ _ _ _ => ((ptg_tup (n := 2) rfl (ptgs_cons (ptg_name (i := 2) sc_rises.nd) (ptgs_cons (ptg_name (i := 3) sc_rises.nd) ptgs_nil)))).lift) (fun _ _ _ _ _ => (ppts_nil).lift) (fun _ _ _ _ _ => ((ppe_sub (ppe_var 3) (ppe_var 2))).lift)) ppa_nil)))))))⟩
theorem bdI_Unlike {k : Nat} : FnOk P w K mg base CX0 (k + 1) Z.fI_Unlike Z.fdI_Unlike ["self"] (spI0 Z.C_Unlike) :=
  ok_init0 (m := "the dunes do not have as many posts") Z.FI_Unlike ⟨rfl, rfl, rfl, by decide +kernel, rfl, by decide +kernel, by decide +kernel⟩ Z.x_Unlike fun cdv A outer s H E hr => pss_one (ps_expr (pe_oyinit (B := (xb "Unlike").nm) (XB.over (xb "Unlike")) (by rfl) Z.z_ValueError Z.vI_Unlike (pa_cons (pe_var (i := 0) rfl (.inl rfl) (by decide) (by decide)) (pa_cons pe_str pa_nil))))
end
section
variable {P : Program} {w : World} {K : PySem.W.Frag} {mg : Str → Option Value} {base : Heap} (Z : Tx K mg)
include Z
theorem ok_mirrored : FnOk P w K mg base CX0 1 Z.f_mirrored Z.fd_mirrored ["dune"] (spA K 1 g_mirrored) := okA Z.F_mirrored sc_mirrored (bd_mirrored Z (k := 0) ) rd_mirrored
theorem ok_upside : FnOk P w K mg base CX0 1 Z.f_upside Z.fd_upside ["dune"] (spA K 1 g_upside) := okA Z.F_upside sc_upside (bd_upside Z (k := 0) ) rd_upside
theorem ok_cut_onward : FnOk P w K mg base CX0 1 Z.f_cut_onward Z.fd_cut_onward ["dune", "slope"] (spA K 2 g_cut_onward) := okA Z.F_cut_onward sc_cut_onward (bd_cut_onward Z (k := 0) ) rd_cut_onward
theorem ok_cut_to : FnOk P w K mg base CX0 2 Z.f_cut_to Z.fd_cut_to ["dune", "slope"] (spA K 2 g_cut_to) := okA Z.F_cut_to sc_cut_to (bd_cut_to Z (k := 1) ((ok_mirrored Z).mono (by decide)) ((ok_cut_onward Z).mono (by decide))) rd_cut_to
theorem ok_blown : FnOk P w K mg base CX0 3 Z.f_blown Z.fd_blown ["dune", "wind"] (spA K 2 g_blown) := okA Z.F_blown sc_blown (bd_blown Z (k := 2) ((ok_upside Z).mono (by decide)) ((ok_cut_to Z).mono (by decide))) rd_blown
theorem ok_days : FnOk P w K mg base CX0 4 Z.f_days Z.fd_days ["dune", "almanac"] (spA K 2 g_days) := okA Z.F_days sc_days (bd_days Z (k := 3) ((ok_blown Z).mono (by decide))) rd_days
theorem ok_rises : FnOk P w K mg base CX0 1 Z.f_rises Z.fd_rises ["one", "other"] (spA K 2 g_rises) := okA Z.F_rises sc_rises (bd_rises Z (k := 0) ) rd_rises
theorem ok_gaps : FnOk P w K mg base CX0 2 Z.f_gaps Z.fd_gaps ["one", "other"] (spA K 2 g_gaps) := okA Z.F_gaps sc_gaps (bd_gaps Z (k := 1) ((ok_rises Z).mono (by decide))) rd_gaps
theorem ok_width : FnOk P w K mg base CX0 3 Z.f_width Z.fd_width ["one", "other"] (spA K 2 g_width) := okA Z.F_width sc_width (bd_width Z (k := 2) ((ok_gaps Z).mono (by decide))) rd_width
theorem ok_widest : FnOk P w K mg base CX0 4 Z.f_widest Z.fd_widest ["one", "other"] (spA K 2 g_widest) := okA Z.F_widest sc_widest (bd_widest Z (k := 3) ((ok_gaps Z).mono (by decide)) ((ok_width Z).mono (by decide))) rd_widest
theorem ok_is_below : FnOk P w K mg base CX0 2 Z.f_is_below Z.fd_is_below ["one", "other"] (spA K 2 g_is_below) := okA Z.F_is_below sc_is_below (bd_is_below Z (k := 1) ((ok_rises Z).mono (by decide))) rd_is_below
theorem ok_widths : FnOk P w K mg base CX0 5 Z.f_widths Z.fd_widths ["one", "other", "almanac"] (spA K 3 g_widths) := okA Z.F_widths sc_widths (bd_widths Z (k := 4) ((ok_days Z).mono (by decide)) ((ok_width Z).mono (by decide))) rd_widths
theorem ok__law_cell_at : FnOk P w K mg base CX0 1 Z.f__law_cell_at Z.fd__law_cell_at ["_law_script", "_law_k"] (spA K 2 g__law_cell_at) := okA Z.F__law_cell_at sc__law_cell_at (bd__law_cell_at Z (k := 0) ) rd__law_cell_at
theorem ok__law_box : FnOk P w K mg base CX0 2 Z.f__law_box Z.fd__law_box ["_law_script", "_law_k"] (spA K 2 g__law_box) := okA Z.F__law_box sc__law_box (bd__law_box Z (k := 1) ((ok__law_cell_at Z).mono (by decide))) rd__law_box
theorem ok__law_take_0 : FnOk P w K mg base CX0 1 Z.f__law_take Z.fd__law_take ["_law_box_here", "_law_size"] (spB K 2 g_take0) := okB Z.F__law_take sc__law_take (bd__law_take Z (k := 0) (fnNoneB Z.F__law_take)) rd_take0
theorem ok__law_take : FnOk P w K mg base CX0 2 Z.f__law_take Z.fd__law_take ["_law_box_here", "_law_size"] (spB K 2 (g_take 100000000000000)) := okB Z.F__law_take sc__law_take (bd__law_take Z (k := 1) ((ok__law_take_0 Z).mono (by decide))) rd_take
theorem ok__law_same_0 : FnOk P w K mg base CX0 1 Z.f__law_same Z.fd__law_same ["_law_told", "_law_due"] (spA K 2 (gS 1)) := okA Z.F__law_same sc__law_same (bd__law_same Z (k := 0) (fnNoneA Z.F__law_same)) (rd_same 0)
theorem ok__law_same_1 : FnOk P w K mg base CX0 2 Z.f__law_same Z.fd__law_same ["_law_told", "_law_due"] (spA K 2 (gS 2)) := okA Z.F__law_same sc__law_same (bd__law_same Z (k := 1) ((ok__law_same_0 Z).mono (by decide))) (rd_same 1)
theorem ok__law_same_2 : FnOk P w K mg base CX0 3 Z.f__law_same Z.fd__law_same ["_law_told", "_law_due"] (spA K 2 (gS 3)) := okA Z.F__law_same sc__law_same (bd__law_same Z (k := 2) ((ok__law_same_1 Z).mono (by decide))) (rd_same 2)
theorem ok__law_same : FnOk P w K mg base CX0 4 Z.f__law_same Z.fd__law_same ["_law_told", "_law_due"] (spA K 2 (gS 4)) := okA Z.F__law_same sc__law_same (bd__law_same Z (k := 3) ((ok__law_same_2 Z).mono (by decide))) (rd_same 3)
theorem ok__law_blown : FnOk P w K mg base CX0 1 Z.f__law_blown Z.fd__law_blown ["_law_hill", "_law_gust"] (spA K 2 g__law_blown) := okA Z.F__law_blown sc__law_blown (bd__law_blown Z (k := 0) ) rd__law_blown
theorem ok__law_dune : FnOk P w K mg base CX0 3 Z.f__law_dune Z.fd__law_dune ["_law_box_here", "_law_size"] (spB K 2 g__law_dune) := okB Z.F__law_dune sc__law_dune (bd__law_dune Z (k := 2) ((ok__law_take Z).mono (by decide))) rd__law_dune
theorem ok__law_slope : FnOk P w K mg base CX0 3 Z.f__law_slope Z.fd__law_slope ["_law_box_here"] (spB K 1 g__law_slope) := okB Z.F__law_slope sc__law_slope (bd__law_slope Z (k := 2) ((ok__law_take Z).mono (by decide))) rd__law_slope
theorem ok__law_winds : FnOk P w K mg base CX0 4 Z.f__law_winds Z.fd__law_winds ["_law_box_here", "_law_size"] (spB K 2 g__law_winds) := okB Z.F__law_winds sc__law_winds (bd__law_winds Z (k := 3) ((ok__law_take Z).mono (by decide)) ((ok__law_slope Z).mono (by decide))) rd__law_winds
theorem ok__law_near : FnOk P w K mg base CX0 3 Z.f__law_near Z.fd__law_near ["_law_box_here", "_law_hill"] (spB K 2 g__law_near_k50) := okB Z.F__law_near sc__law_near (bd__law_near Z (k := 2) ((ok__law_take Z).mono (by decide))) rd__law_near_k50
theorem okI_Unlike : FnOk P w K mg base CX0 1 Z.fI_Unlike Z.fdI_Unlike ["self"] (spI0 Z.C_Unlike) := bdI_Unlike Z (k := 0)
theorem okx_rises : FnOk P w K mg base (L2.CX P w) 3 Z.f_rises Z.fd_rises ["one", "other"] (spX K 2 gx_rises) := okX Z.F_rises sc_rises (bdx_rises Z (k := 1) ((okI_Unlike Z).mono (by decide))) rdx_rises
theorem okx_gaps : FnOk P w K mg base (L2.CX P w) 5 Z.f_gaps Z.fd_gaps ["one", "other"] (spX K 2 gx_gaps) := okX Z.F_gaps sc_gaps (bdx_gaps Z (k := 3) ((ok_rises Z).mono (by decide)) ((okx_rises Z).mono (by decide))) rdx_gaps
theorem okx_width : FnOk P w K mg base (L2.CX P w) 7 Z.f_width Z.fd_width ["one", "other"] (spX K 2 gx_width) := okX Z.F_width sc_width (bdx_width Z (k := 5) ((ok_gaps Z).mono (by decide)) ((okx_gaps Z).mono (by decide))) rdx_width
theorem okx_widest : FnOk P w K mg base (L2.CX P w) 7 Z.f_widest Z.fd_widest ["one", "other"] (spX K 2 gx_widest) := okX Z.F_widest sc_widest (bdx_widest Z (k := 5) ((ok_gaps Z).mono (by decide)) ((ok_width Z).mono (by decide)) ((okx_gaps Z).mono (by decide))) rdx_widest
theorem okx_is_below : FnOk P w K mg base (L2.CX P w) 5 Z.f_is_below Z.fd_is_below ["one", "other"] (spX K 2 gx_is_below) := okX Z.F_is_below sc_is_below (bdx_is_below Z (k := 3) ((ok_rises Z).mono (by decide)) ((okx_rises Z).mono (by decide))) rdx_is_below
theorem okx_widths : FnOk P w K mg base (L2.CX P w) 9 Z.f_widths Z.fd_widths ["one", "other", "almanac"] (spX K 3 gx_widths) := okX Z.F_widths sc_widths (bdx_widths Z (k := 7) ((ok_days Z).mono (by decide)) ((ok_width Z).mono (by decide)) ((okx_width Z).mono (by decide))) rdx_widths
theorem ok__law_refused : FnOk P w K mg base CX0 10 Z.f__law_refused Z.fd__law_refused ["_law_here", "_law_two", "_law_way"] (spA K 3 g__law_refused) := okA Z.F__law_refused sc__law_refused (bd__law_refused Z (k := 9) ((ok_width Z).mono (by decide)) ((ok_widest Z).mono (by decide)) ((ok_is_below Z).mono (by decide)) ((ok_widths Z).mono (by decide)) ((okx_width Z).mono (by decide)) ((okx_widest Z).mono (by decide)) ((okx_is_below Z).mono (by decide)) ((okx_widths Z).mono (by decide))) rd__law_refused
theorem ok_law : FnOk P w K mg base CX0 11 Z.f_law Z.fd_law ["_law_script"] (spA K 1 g_law) := okA Z.F_law sc_law (bd_law Z (k := 10) ((ok_width Z).mono (by decide)) ((ok_widest Z).mono (by decide)) ((ok_is_below Z).mono (by decide)) ((ok_widths Z).mono (by decide)) ((ok__law_box Z).mono (by decide)) ((ok__law_take Z).mono (by decide)) ((ok__law_same Z).mono (by decide)) ((ok__law_blown Z).mono (by decide)) ((ok__law_dune Z).mono (by decide)) ((ok__law_winds Z).mono (by decide)) ((ok__law_near Z).mono (by decide)) ((ok__law_refused Z).mono (by decide))) rd_law
end
set_option maxHeartbeats 4000000 in
theorem all_mk {l : PySem.W.OpenLaw} {w : World} {K : PySem.W.Frag} {h : Heap} {mg : Str → Option Value} {fa : Addr} (X : K.In h) (G : h.Ns mainGlobals mg) (hfa : mg "law" = some (.ref fa)) {f0 : Addr} {od0 an0 : Option Addr} {sl0 : Array (Option Value)} {oc0 kV0 dc0 pm0 cd0 ct0 : Value} {f1 : Addr} {od1 an1 : Option Addr} {sl1 : Array (Option Value)} {oc1 kV1 dc1 pm1 cd1 ct1 : Value} {f2 : Addr} {od2 an2 : Option Addr} {sl2 : Array (Option Value)} {oc2 kV2 dc2 pm2 cd2 ct2 : Value} {f3 : Addr} {od3 an3 : Option Addr} {sl3 : Array (Option Value)} {oc3 kV3 dc3 pm3 cd3 ct3 : Value} {f4 : Addr} {od4 an4 : Option Addr} {sl4 : Array (Option Value)} {oc4 kV4 dc4 pm4 cd4 ct4 : Value} {f5 : Addr} {od5 an5 : Option Addr} {sl5 : Array (Option Value)} {oc5 kV5 dc5 pm5 cd5 ct5 : Value} {f6 : Addr} {od6 an6 : Option Addr} {sl6 : Array (Option Value)} {oc6 kV6 dc6 pm6 cd6 ct6 : Value} {f7 : Addr} {od7 an7 : Option Addr} {sl7 : Array (Option Value)} {oc7 kV7 dc7 pm7 cd7 ct7 : Value} {f8 : Addr} {od8 an8 : Option Addr} {sl8 : Array (Option Value)} {oc8 kV8 dc8 pm8 cd8 ct8 : Value} {f9 : Addr} {od9 an9 : Option Addr} {sl9 : Array (Option Value)} {oc9 kV9 dc9 pm9 cd9 ct9 : Value} {f10 : Addr} {od10 an10 : Option Addr} {sl10 : Array (Option Value)} {oc10 kV10 dc10 pm10 cd10 ct10 : Value} {f11 : Addr} {od11 an11 : Option Addr} {sl11 : Array (Option Value)} {oc11 kV11 dc11 pm11 cd11 ct11 : Value} {f12 : Addr} {od12 an12 : Option Addr} {sl12 : Array (Option Value)} {oc12 kV12 dc12 pm12 cd12 ct12 : Value} {f13 : Addr} {od13 an13 : Option Addr} {sl13 : Array (Option Value)} {oc13 kV13 dc13 pm13 cd13 ct13 : Value} {f14 : Addr} {od14 an14 : Option Addr} {sl14 : Array (Option Value)} {oc14 kV14 dc14 pm14 cd14 ct14 : Value} {f15 : Addr} {od15 an15 : Option Addr} {sl15 : Array (Option Value)} {oc15 kV15 dc15 pm15 cd15 ct15 : Value} {f16 : Addr} {od16 an16 : Option Addr} {sl16 : Array (Option Value)} {oc16 kV16 dc16 pm16 cd16 ct16 : Value} {f17 : Addr} {od17 an17 : Option Addr} {sl17 : Array (Option Value)} {oc17 kV17 dc17 pm17 cd17 ct17 : Value} {f18 : Addr} {od18 an18 : Option Addr} {sl18 : Array (Option Value)} {oc18 kV18 dc18 pm18 cd18 ct18 : Value} {f19 : Addr} {od19 an19 : Option Addr} {sl19 : Array (Option Value)} {oc19 kV19 dc19 pm19 cd19 ct19 : Value} {f20 : Addr} {od20 an20 : Option Addr} {sl20 : Array (Option Value)} {oc20 kV20 dc20 pm20 cd20 ct20 : Value} {f21 : Addr} {od21 an21 : Option Addr} {sl21 : Array (Option Value)} {oc21 kV21 dc21 pm21 cd21 ct21 : Value} {f22 : Addr} {od22 an22 : Option Addr} {sl22 : Array (Option Value)} {oc22 kV22 dc22 pm22 cd22 ct22 : Value} {xC0 xN0 : Addr} {xq0 : Str} {xbs0 xsub0 : List Value} {xsn0 : List Str} {xab0 : Bool} {xcol0 : Option Bool} {xdd0 : Option Addr} {xm00 xm01 xm02 xm03 xm05 : Option Value} {xfi0 : Addr} {xod0 xan0 : Option Addr} {xsl0 : Array (Option Value)} {xoc0 xkV0 xdc0 xpm0 xcd0 xct0 : Value}
    (a0 : PySem.W.nsIn K mainGlobals "mirrored" = some (some (.ref f0))) (l0 : K.lookup f0 = some ⟨oc0, od0, .func (PySem.W.fnOf "mirrored" "mirrored" (defArgs s_mirrored) (defBody s_mirrored) (defScope s_mirrored) .none kV0 dc0 pm0 an0 cd0 ct0), sl0⟩) (c0 : PySem.W.codeIn K cd0 "mirrored" = true) (k0 : PySem.W.keepIn K (.ref f0) = true)
    (a1 : PySem.W.nsIn K mainGlobals "upside" = some (some (.ref f1))) (l1 : K.lookup f1 = some ⟨oc1, od1, .func (PySem.W.fnOf "upside" "upside" (defArgs s_upside) (defBody s_upside) (defScope s_upside) .none kV1 dc1 pm1 an1 cd1 ct1), sl1⟩) (c1 : PySem.W.codeIn K cd1 "upside" = true) (k1 : PySem.W.keepIn K (.ref f1) = true)
    (a2 : PySem.W.nsIn K mainGlobals "blown" = some (some (.ref f2))) (l2 : K.lookup f2 = some ⟨oc2, od2, .func (PySem.W.fnOf "blown" "blown" (defArgs s_blown) (defBody s_blown) (defScope s_blown) .none kV2 dc2 pm2 an2 cd2 ct2), sl2⟩) (c2 : PySem.W.codeIn K cd2 "blown" = true) (k2 : PySem.W.keepIn K (.ref f2) = true)
    (a3 : PySem.W.nsIn K mainGlobals "cut_to" = some (some (.ref f3))) (l3 : K.lookup f3 = some ⟨oc3, od3, .func (PySem.W.fnOf "cut_to" "cut_to" (defArgs s_cut_to) (defBody s_cut_to) (defScope s_cut_to) .none kV3 dc3 pm3 an3 cd3 ct3), sl3⟩) (c3 : PySem.W.codeIn K cd3 "cut_to" = true) (k3 : PySem.W.keepIn K (.ref f3) = true)
    (a4 : PySem.W.nsIn K mainGlobals "cut_onward" = some (some (.ref f4))) (l4 : K.lookup f4 = some ⟨oc4, od4, .func (PySem.W.fnOf "cut_onward" "cut_onward" (defArgs s_cut_onward) (defBody s_cut_onward) (defScope s_cut_onward) .none kV4 dc4 pm4 an4 cd4 ct4), sl4⟩) (c4 : PySem.W.codeIn K cd4 "cut_onward" = true) (k4 : PySem.W.keepIn K (.ref f4) = true)
    (a5 : PySem.W.nsIn K mainGlobals "days" = some (some (.ref f5))) (l5 : K.lookup f5 = some ⟨oc5, od5, .func (PySem.W.fnOf "days" "days" (defArgs s_days) (defBody s_days) (defScope s_days) .none kV5 dc5 pm5 an5 cd5 ct5), sl5⟩) (c5 : PySem.W.codeIn K cd5 "days" = true) (k5 : PySem.W.keepIn K (.ref f5) = true)
    (a6 : PySem.W.nsIn K mainGlobals "rises" = some (some (.ref f6))) (l6 : K.lookup f6 = some ⟨oc6, od6, .func (PySem.W.fnOf "rises" "rises" (defArgs s_rises) (defBody s_rises) (defScope s_rises) .none kV6 dc6 pm6 an6 cd6 ct6), sl6⟩) (c6 : PySem.W.codeIn K cd6 "rises" = true) (k6 : PySem.W.keepIn K (.ref f6) = true)
    (a7 : PySem.W.nsIn K mainGlobals "gaps" = some (some (.ref f7))) (l7 : K.lookup f7 = some ⟨oc7, od7, .func (PySem.W.fnOf "gaps" "gaps" (defArgs s_gaps) (defBody s_gaps) (defScope s_gaps) .none kV7 dc7 pm7 an7 cd7 ct7), sl7⟩) (c7 : PySem.W.codeIn K cd7 "gaps" = true) (k7 : PySem.W.keepIn K (.ref f7) = true)
    (a8 : PySem.W.nsIn K mainGlobals "width" = some (some (.ref f8))) (l8 : K.lookup f8 = some ⟨oc8, od8, .func (PySem.W.fnOf "width" "width" (defArgs s_width) (defBody s_width) (defScope s_width) .none kV8 dc8 pm8 an8 cd8 ct8), sl8⟩) (c8 : PySem.W.codeIn K cd8 "width" = true) (k8 : PySem.W.keepIn K (.ref f8) = true)
    (a9 : PySem.W.nsIn K mainGlobals "widest" = some (some (.ref f9))) (l9 : K.lookup f9 = some ⟨oc9, od9, .func (PySem.W.fnOf "widest" "widest" (defArgs s_widest) (defBody s_widest) (defScope s_widest) .none kV9 dc9 pm9 an9 cd9 ct9), sl9⟩) (c9 : PySem.W.codeIn K cd9 "widest" = true) (k9 : PySem.W.keepIn K (.ref f9) = true)
    (a10 : PySem.W.nsIn K mainGlobals "is_below" = some (some (.ref f10))) (l10 : K.lookup f10 = some ⟨oc10, od10, .func (PySem.W.fnOf "is_below" "is_below" (defArgs s_is_below) (defBody s_is_below) (defScope s_is_below) .none kV10 dc10 pm10 an10 cd10 ct10), sl10⟩) (c10 : PySem.W.codeIn K cd10 "is_below" = true) (k10 : PySem.W.keepIn K (.ref f10) = true)
    (a11 : PySem.W.nsIn K mainGlobals "widths" = some (some (.ref f11))) (l11 : K.lookup f11 = some ⟨oc11, od11, .func (PySem.W.fnOf "widths" "widths" (defArgs s_widths) (defBody s_widths) (defScope s_widths) .none kV11 dc11 pm11 an11 cd11 ct11), sl11⟩) (c11 : PySem.W.codeIn K cd11 "widths" = true) (k11 : PySem.W.keepIn K (.ref f11) = true)
    (a12 : PySem.W.nsIn K mainGlobals "_law_cell_at" = some (some (.ref f12))) (l12 : K.lookup f12 = some ⟨oc12, od12, .func (PySem.W.fnOf "_law_cell_at" "_law_cell_at" (defArgs s__law_cell_at) (defBody s__law_cell_at) (defScope s__law_cell_at) .none kV12 dc12 pm12 an12 cd12 ct12), sl12⟩) (c12 : PySem.W.codeIn K cd12 "_law_cell_at" = true) (k12 : PySem.W.keepIn K (.ref f12) = true)
    (a13 : PySem.W.nsIn K mainGlobals "_law_box" = some (some (.ref f13))) (l13 : K.lookup f13 = some ⟨oc13, od13, .func (PySem.W.fnOf "_law_box" "_law_box" (defArgs s__law_box) (defBody s__law_box) (defScope s__law_box) .none kV13 dc13 pm13 an13 cd13 ct13), sl13⟩) (c13 : PySem.W.codeIn K cd13 "_law_box" = true) (k13 : PySem.W.keepIn K (.ref f13) = true)
    (a14 : PySem.W.nsIn K mainGlobals "_law_take" = some (some (.ref f14))) (l14 : K.lookup f14 = some ⟨oc14, od14, .func (PySem.W.fnOf "_law_take" "_law_take" (defArgs s__law_take) (defBody s__law_take) (defScope s__law_take) .none kV14 dc14 pm14 an14 cd14 ct14), sl14⟩) (c14 : PySem.W.codeIn K cd14 "_law_take" = true) (k14 : PySem.W.keepIn K (.ref f14) = true)
    (a15 : PySem.W.nsIn K mainGlobals "_law_same" = some (some (.ref f15))) (l15 : K.lookup f15 = some ⟨oc15, od15, .func (PySem.W.fnOf "_law_same" "_law_same" (defArgs s__law_same) (defBody s__law_same) (defScope s__law_same) .none kV15 dc15 pm15 an15 cd15 ct15), sl15⟩) (c15 : PySem.W.codeIn K cd15 "_law_same" = true) (k15 : PySem.W.keepIn K (.ref f15) = true)
    (a16 : PySem.W.nsIn K mainGlobals "_law_blown" = some (some (.ref f16))) (l16 : K.lookup f16 = some ⟨oc16, od16, .func (PySem.W.fnOf "_law_blown" "_law_blown" (defArgs s__law_blown) (defBody s__law_blown) (defScope s__law_blown) .none kV16 dc16 pm16 an16 cd16 ct16), sl16⟩) (c16 : PySem.W.codeIn K cd16 "_law_blown" = true) (k16 : PySem.W.keepIn K (.ref f16) = true)
    (a17 : PySem.W.nsIn K mainGlobals "_law_dune" = some (some (.ref f17))) (l17 : K.lookup f17 = some ⟨oc17, od17, .func (PySem.W.fnOf "_law_dune" "_law_dune" (defArgs s__law_dune) (defBody s__law_dune) (defScope s__law_dune) .none kV17 dc17 pm17 an17 cd17 ct17), sl17⟩) (c17 : PySem.W.codeIn K cd17 "_law_dune" = true) (k17 : PySem.W.keepIn K (.ref f17) = true)
    (a18 : PySem.W.nsIn K mainGlobals "_law_slope" = some (some (.ref f18))) (l18 : K.lookup f18 = some ⟨oc18, od18, .func (PySem.W.fnOf "_law_slope" "_law_slope" (defArgs s__law_slope) (defBody s__law_slope) (defScope s__law_slope) .none kV18 dc18 pm18 an18 cd18 ct18), sl18⟩) (c18 : PySem.W.codeIn K cd18 "_law_slope" = true) (k18 : PySem.W.keepIn K (.ref f18) = true)
    (a19 : PySem.W.nsIn K mainGlobals "_law_winds" = some (some (.ref f19))) (l19 : K.lookup f19 = some ⟨oc19, od19, .func (PySem.W.fnOf "_law_winds" "_law_winds" (defArgs s__law_winds) (defBody s__law_winds) (defScope s__law_winds) .none kV19 dc19 pm19 an19 cd19 ct19), sl19⟩) (c19 : PySem.W.codeIn K cd19 "_law_winds" = true) (k19 : PySem.W.keepIn K (.ref f19) = true)
    (a20 : PySem.W.nsIn K mainGlobals "_law_near" = some (some (.ref f20))) (l20 : K.lookup f20 = some ⟨oc20, od20, .func (PySem.W.fnOf "_law_near" "_law_near" (defArgs s__law_near) (defBody s__law_near) (defScope s__law_near) .none kV20 dc20 pm20 an20 cd20 ct20), sl20⟩) (c20 : PySem.W.codeIn K cd20 "_law_near" = true) (k20 : PySem.W.keepIn K (.ref f20) = true)
    (a21 : PySem.W.nsIn K mainGlobals "_law_refused" = some (some (.ref f21))) (l21 : K.lookup f21 = some ⟨oc21, od21, .func (PySem.W.fnOf "_law_refused" "_law_refused" (defArgs s__law_refused) (defBody s__law_refused) (defScope s__law_refused) .none kV21 dc21 pm21 an21 cd21 ct21), sl21⟩) (c21 : PySem.W.codeIn K cd21 "_law_refused" = true) (k21 : PySem.W.keepIn K (.ref f21) = true)
    (a22 : PySem.W.nsIn K mainGlobals "law" = some (some (.ref f22))) (l22 : K.lookup f22 = some ⟨oc22, od22, .func (PySem.W.fnOf "law" "law" (defArgs s_law) (defBody s_law) (defScope s_law) .none kV22 dc22 pm22 an22 cd22 ct22), sl22⟩) (c22 : PySem.W.codeIn K cd22 "law" = true) (k22 : PySem.W.keepIn K (.ref f22) = true)
    (xh : PySem.W.specialIn K (.builtin "object.__class__") "__get__" = some (some (.builtin "getset_descriptor.__get__"))) (xt : PySem.W.takesIn K (.builtin "object.__class__") = some true)
    (xa0 : PySem.W.nsIn K mainGlobals "Unlike" = some (some (.ref xC0))) (xl0 : K.lookup xC0 = some (excClassObj "Unlike" xq0 xC0 xN0 xbs0 [.type "ValueError", .type "Exception", .type "BaseException", .type "object"] true xsn0 xsub0 xab0 xcol0 xdd0 xm00 xm01 xm02 xm03 xm05 "ValueError.__new__"))
    (xs0 : PySem.W.findIn K (.ref xC0) "__setattr__" = some (some (.builtin "object.__setattr__"))) (xg0 : PySem.W.findIn K (.ref xC0) "__getattribute__" = some (some (.builtin "BaseException.__getattribute__"))) (xo0 : PySem.W.findIn K (.ref xC0) "__getattr__" = some none) (xc0 : PySem.W.findIn K (.ref xC0) "__class__" = some (some (.builtin "object.__class__")))
    (xf0 : PySem.W.findIn K (.ref xC0) "many" = some none) (xk0 : PySem.W.keepIn K (.ref xC0) = true) (xe0 : PySem.W.subIn K (.ref xC0) (.type "BaseException") = some true) (xy0 : PySem.W.typeIn K (.ref xC0) = some (.type "type"))
    (xi0 : PySem.W.findIn K (.ref xC0) "__init__" = some (some (.ref xfi0))) (xw0 : PySem.W.typeIn K (.ref xfi0) = some (.type "function")) (xj0 : K.lookup xfi0 = some ⟨xoc0, xod0, .func (PySem.W.fnOf "__init__" "Unlike.__init__" (defArgs si_Unlike) (defBody si_Unlike) (defScope si_Unlike) .none xkV0 xdc0 xpm0 xan0 xcd0 xct0), xsl0⟩) (xr0 : PySem.W.codeIn K xcd0 "Unlike.__init__" = true) (xz0 : PySem.W.keepIn K (.ref xfi0) = true) (xv0 : PySem.W.findCls K (.type "ValueError") (.type "type") "__init__" = some (.val (.builtin "ValueError.__init__")))
    (z0 : PySem.W.nsIn K mainGlobals "ValueError" = some none)
    (z1 : PySem.W.nsIn K mainGlobals "abs" = some none)
    (z2 : PySem.W.nsIn K mainGlobals "all" = some none)
    (z3 : PySem.W.nsIn K mainGlobals "bool" = some none)
    (z4 : PySem.W.nsIn K mainGlobals "int" = some none)
    (z5 : PySem.W.nsIn K mainGlobals "isinstance" = some none)
    (z6 : PySem.W.nsIn K mainGlobals "len" = some none)
    (z7 : PySem.W.nsIn K mainGlobals "list" = some none)
    (z8 : PySem.W.nsIn K mainGlobals "max" = some none)
    (z9 : PySem.W.nsIn K mainGlobals "min" = some none)
    (z10 : PySem.W.nsIn K mainGlobals "range" = some none)
    (z11 : PySem.W.nsIn K mainGlobals "str" = some none)
    (z12 : PySem.W.nsIn K mainGlobals "tuple" = some none)
    (z13 : PySem.W.nsIn K mainGlobals "zip" = some none) :
    ∃ fd : FuncData, (∀ (s : Shared) (v : Value), BindsTo s fd ⟨[v], []⟩ [("_law_script", v)]) ∧ ∀ base : Heap, K.In base → base.Ns mainGlobals mg → FnOk l.prog w K mg base CX0 11 fa fd ["_law_script"] (spA K 1 g_law) := by
  have e := hfa.symm.trans (PySem.W.mg_of X G a22)
  cases e
  exact ⟨PySem.W.fnOf "law" "law" (defArgs s_law) (defBody s_law) (defScope s_law) .none kV22 dc22 pm22 an22 cd22 ct22, fun s v => .of_eq rfl, fun base _ _ => ok_law { f_mirrored := _, fd_mirrored := _, F_mirrored := fun_mk (st := s_mirrored) l0 c0 k0, m_mirrored := PySem.W.mg_of X G a0, b_mirrored := (fun_mk (st := s_mirrored) l0 c0 k0).binds (ps := ["dune"]) (fun _ _ _ _ _ _ us hl => match us, hl with | [_], _ => rfl), f_upside := _, fd_upside := _, F_upside := fun_mk (st := s_upside) l1 c1 k1, m_upside := PySem.W.mg_of X G a1, b_upside := (fun_mk (st := s_upside) l1 c1 k1).binds (ps := ["dune"]) (fun _ _ _ _ _ _ us hl => match us, hl with | [_], _ => rfl), f_blown := _, fd_blown := _, F_blown := fun_mk (st := s_blown) l2 c2 k2, m_blown := PySem.W.mg_of X G a2, b_blown := (fun_mk (st := s_blown) l2 c2 k2).binds (ps := ["dune", "wind"]) (fun _ _ _ _ _ _ us hl => match us, hl with | [_, _], _ => rfl), f_cut_to := _, fd_cut_to := _, F_cut_to := fun_mk (st := s_cut_to) l3 c3 k3, m_cut_to := PySem.W.mg_of X G a3, b_cut_to := (fun_mk (st := s_cut_to) l3 c3 k3).binds (ps := ["dune", "slope"]) (fun _ _ _ _ _ _ us hl => match us, hl with | [_, _], _ => rfl), f_cut_onward := _, fd_cut_onward := _, F_cut_onward := fun_mk (st := s_cut_onward) l4 c4 k4, m_cut_onward := PySem.W.mg_of X G a4, b_cut_onward := (fun_mk (st := s_cut_onward) l4 c4 k4).binds (ps := ["dune", "slope"]) (fun _ _ _ _ _ _ us hl => match us, hl with | [_, _], _ => rfl), f_days := _, fd_days := _, F_days := fun_mk (st := s_days) l5 c5 k5, m_days := PySem.W.mg_of X G a5, b_days := (fun_mk (st := s_days) l5 c5 k5).binds (ps := ["dune", "almanac"]) (fun _ _ _ _ _ _ us hl => match us, hl with | [_, _], _ => rfl), f_rises := _, fd_rises := _, F_rises := fun_mk (st := s_rises) l6 c6 k6, m_rises := PySem.W.mg_of X G a6, b_rises := (fun_mk (st := s_rises) l6 c6 k6).binds (ps := ["one", "other"]) (fun _ _ _ _ _ _ us hl => match us, hl with | [_, _], _ => rfl), f_gaps := _, fd_gaps := _, F_gaps := fun_mk (st := s_gaps) l7 c7 k7, m_gaps := PySem.W.mg_of X G a7, b_gaps := (fun_mk (st := s_gaps) l7 c7 k7).binds (ps := ["one", "other"]) (fun _ _ _ _ _ _ us hl => match us, hl with | [_, _], _ => rfl), f_width := _, fd_width := _, F_width := fun_mk (st := s_width) l8 c8 k8, m_width := PySem.W.mg_of X G a8, b_width := (fun_mk (st := s_width) l8 c8 k8).binds (ps := ["one", "other"]) (fun _ _ _ _ _ _ us hl => match us, hl with | [_, _], _ => rfl), f_widest := _, fd_widest := _, F_widest := fun_mk (st := s_widest) l9 c9 k9, m_widest := PySem.W.mg_of X G a9, b_widest := (fun_mk (st := s_widest) l9 c9 k9).binds (ps := ["one", "other"]) (fun _ _ _ _ _ _ us hl => match us, hl with | [_, _], _ => rfl), f_is_below := _, fd_is_below := _, F_is_below := fun_mk (st := s_is_below) l10 c10 k10, m_is_below := PySem.W.mg_of X G a10, b_is_below := (fun_mk (st := s_is_below) l10 c10 k10).binds (ps := ["one", "other"]) (fun _ _ _ _ _ _ us hl => match us, hl with | [_, _], _ => rfl), f_widths := _, fd_widths := _, F_widths := fun_mk (st := s_widths) l11 c11 k11, m_widths := PySem.W.mg_of X G a11, b_widths := (fun_mk (st := s_widths) l11 c11 k11).binds (ps := ["one", "other", "almanac"]) (fun _ _ _ _ _ _ us hl => match us, hl with | [_, _, _], _ => rfl), f__law_cell_at := _, fd__law_cell_at := _, F__law_cell_at := fun_mk (st := s__law_cell_at) l12 c12 k12, m__law_cell_at := PySem.W.mg_of X G a12, b__law_cell_at := (fun_mk (st := s__law_cell_at) l12 c12 k12).binds (ps := ["_law_script", "_law_k"]) (fun _ _ _ _ _ _ us hl => match us, hl with | [_, _], _ => rfl), f__law_box := _, fd__law_box := _, F__law_box := fun_mk (st := s__law_box) l13 c13 k13, m__law_box := PySem.W.mg_of X G a13, b__law_box := (fun_mk (st := s__law_box) l13 c13 k13).binds (ps := ["_law_script", "_law_k"]) (fun _ _ _ _ _ _ us hl => match us, hl with | [_, _], _ => rfl), f__law_take := _, fd__law_take := _, F__law_take := fun_mk (st := s__law_take) l14 c14 k14, m__law_take := PySem.W.mg_of X G a14, b__law_take := (fun_mk (st := s__law_take) l14 c14 k14).binds (ps := ["_law_box_here", "_law_size"]) (fun _ _ _ _ _ _ us hl => match us, hl with | [_, _], _ => rfl), f__law_same := _, fd__law_same := _, F__law_same := fun_mk (st := s__law_same) l15 c15 k15, m__law_same := PySem.W.mg_of X G a15, b__law_same := (fun_mk (st := s__law_same) l15 c15 k15).binds (ps := ["_law_told", "_law_due"]) (fun _ _ _ _ _ _ us hl => match us, hl with | [_, _], _ => rfl), f__law_blown := _, fd__law_blown := _, F__law_blown := fun_mk (st := s__law_blown) l16 c16 k16, m__law_blown := PySem.W.mg_of X G a16, b__law_blown := (fun_mk (st := s__law_blown) l16 c16 k16).binds (ps := ["_law_hill", "_law_gust"]) (fun _ _ _ _ _ _ us hl => match us, hl with | [_, _], _ => rfl), f__law_dune := _, fd__law_dune := _, F__law_dune := fun_mk (st := s__law_dune) l17 c17 k17, m__law_dune := PySem.W.mg_of X G a17, b__law_dune := (fun_mk (st := s__law_dune) l17 c17 k17).binds (ps := ["_law_box_here", "_law_size"]) (fun _ _ _ _ _ _ us hl => match us, hl with | [_, _], _ => rfl), f__law_slope := _, fd__law_slope := _, F__law_slope := fun_mk (st := s__law_slope) l18 c18 k18, m__law_slope := PySem.W.mg_of X G a18, b__law_slope := (fun_mk (st := s__law_slope) l18 c18 k18).binds (ps := ["_law_box_here"]) (fun _ _ _ _ _ _ us hl => match us, hl with | [_], _ => rfl), f__law_winds := _, fd__law_winds := _, F__law_winds := fun_mk (st := s__law_winds) l19 c19 k19, m__law_winds := PySem.W.mg_of X G a19, b__law_winds := (fun_mk (st := s__law_winds) l19 c19 k19).binds (ps := ["_law_box_here", "_law_size"]) (fun _ _ _ _ _ _ us hl => match us, hl with | [_, _], _ => rfl), f__law_near := _, fd__law_near := _, F__law_near := fun_mk (st := s__law_near) l20 c20 k20, m__law_near := PySem.W.mg_of X G a20, b__law_near := (fun_mk (st := s__law_near) l20 c20 k20).binds (ps := ["_law_box_here", "_law_hill"]) (fun _ _ _ _ _ _ us hl => match us, hl with | [_, _], _ => rfl), f__law_refused := _, fd__law_refused := _, F__law_refused := fun_mk (st := s__law_refused) l21 c21 k21, m__law_refused := PySem.W.mg_of X G a21, b__law_refused := (fun_mk (st := s__law_refused) l21 c21 k21).binds (ps := ["_law_here", "_law_two", "_law_way"]) (fun _ _ _ _ _ _ us hl => match us, hl with | [_, _, _], _ => rfl), f_law := _, fd_law := _, F_law := fun_mk (st := s_law) l22 c22 k22, m_law := PySem.W.mg_of X G a22, b_law := (fun_mk (st := s_law) l22 c22 k22).binds (ps := ["_law_script"]) (fun _ _ _ _ _ _ us hl => match us, hl with | [_], _ => rfl), C_Unlike := xC0, x_Unlike := ⟨⟨xq0, xN0, xbs0, xsn0, xsub0, xab0, xcol0, xdd0, xm00, xm01, xm02, xm03, xm05, by unfold xtl; rw [(xb_value "Unlike" (by decide +kernel))]; exact xl0⟩, xs0, xe0, xy0, xk0, ⟨xg0, xo0, xc0, xh, xt⟩, xa0, xf0, PySem.W.mg_of X G xa0⟩, fI_Unlike := _, fdI_Unlike := _, iC_Unlike := xi0, tI_Unlike := xw0, FI_Unlike := fun_mk (st := si_Unlike) xj0 xr0 xz0, bI_Unlike := (fun_mk (st := si_Unlike) xj0 xr0 xz0).binds (ps := ["self"]) (fun _ _ _ _ _ _ us hl => match us, hl with | [_], _ => rfl), vI_Unlike := xv0, z_ValueError := PySem.W.mg_none_of X G z0, z_abs := PySem.W.mg_none_of X G z1, z_all := PySem.W.mg_none_of X G z2, z_bool := PySem.W.mg_none_of X G z3, z_int := PySem.W.mg_none_of X G z4, z_isinstance := PySem.W.mg_none_of X G z5, z_len := PySem.W.mg_none_of X G z6, z_list := PySem.W.mg_none_of X G z7, z_max := PySem.W.mg_none_of X G z8, z_min := PySem.W.mg_none_of X G z9, z_range := PySem.W.mg_none_of X G z10, z_str := PySem.W.mg_none_of X G z11, z_tuple := PySem.W.mg_none_of X G z12, z_zip := PySem.W.mg_none_of X G z13 }⟩
theorem law_sp (K : PySem.W.Frag) (H : Hp) (a : Addr) (ns : List Int) (hl : ns.length ≤ 63) (_ : Only H) (hS : SqL K H a (ns.map V.int)) : spA K 1 g_law [.ref a] H (fun v _ => v = .bl true) fun _ _ _ => False := by
  refine ⟨H, [.scr ns], fun c => c = .val (.bl true), rfl, .refl H, .cons (.scr hS) .nil, ⟨ns, rfl, hl, rfl⟩, fun v c F' H' u S e => ?_⟩
  subst e
  obtain ⟨v', h1, h2⟩ := S.val 0 (.bl true) rfl
  cases h1
  exact h2.blInv
end Pl
open PySem PySem.W PyProof.Rows
set_option maxHeartbeats 0 in
theorem PySem.Challenge.cw_dunebooks_k50_widths_of_two_dunes_holds : PySem.Challenge.rw_dunebooks_k50_widths_of_two_dunes.Holds := by
  w_on; o_law; k_head; (case hw => w_witness2)
  k_fill
  refine L2.walk_ofK (l := PySem.Challenge.rw_dunebooks_k50_widths_of_two_dunes) (n := 63) (k := 11) (x := "_law_script") (CX := L2.CX0) (sp := fun K => Pl.spA K 1 Pl.g_law) rfl (by decide) rfl ⟨rfl, by decide, by decide⟩ (fun w h Y => PySem.W.kIn_of Y) ?F Pl.law_sp (fun _ _ _ _ h => h)
  case F =>
    intro w mg fa h KX G hmg
    refine' Pl.all_mk KX G hmg ?a0 ?l0 ?c0 ?k0 ?a1 ?l1 ?c1 ?k1 ?a2 ?l2 ?c2 ?k2 ?a3 ?l3 ?c3 ?k3 ?a4 ?l4 ?c4 ?k4 ?a5 ?l5 ?c5 ?k5 ?a6 ?l6 ?c6 ?k6 ?a7 ?l7 ?c7 ?k7 ?a8 ?l8 ?c8 ?k8 ?a9 ?l9 ?c9 ?k9 ?a10 ?l10 ?c10 ?k10 ?a11 ?l11 ?c11 ?k11 ?a12 ?l12 ?c12 ?k12 ?a13 ?l13 ?c13 ?k13 ?a14 ?l14 ?c14 ?k14 ?a15 ?l15 ?c15 ?k15 ?a16 ?l16 ?c16 ?k16 ?a17 ?l17 ?c17 ?k17 ?a18 ?l18 ?c18 ?k18 ?a19 ?l19 ?c19 ?k19 ?a20 ?l20 ?c20 ?k20 ?a21 ?l21 ?c21 ?k21 ?a22 ?l22 ?c22 ?k22 ?xh ?xt ?xa0 ?xl0 ?xs0 ?xg0 ?xo0 ?xc0 ?xf0 ?xk0 ?xe0 ?xy0 ?xi0 ?xw0 ?xj0 ?xr0 ?xz0 ?xv0 ?z0 ?z1 ?z2 ?z3 ?z4 ?z5 ?z6 ?z7 ?z8 ?z9 ?z10 ?z11 ?z12 ?z13
    (case a0 => k_is); (case l0 => k_is); (case c0 => k_is); (case k0 => k_is); (case a1 => k_is); (case l1 => k_is); (case c1 => k_is); (case k1 => k_is); (case a2 => k_is); (case l2 => k_is); (case c2 => k_is); (case k2 => k_is); (case a3 => k_is); (case l3 => k_is); (case c3 => k_is); (case k3 => k_is); (case a4 => k_is); (case l4 => k_is); (case c4 => k_is); (case k4 => k_is); (case a5 => k_is); (case l5 => k_is); (case c5 => k_is); (case k5 => k_is); (case a6 => k_is); (case l6 => k_is); (case c6 => k_is); (case k6 => k_is); (case a7 => k_is); (case l7 => k_is); (case c7 => k_is); (case k7 => k_is); (case a8 => k_is); (case l8 => k_is); (case c8 => k_is); (case k8 => k_is); (case a9 => k_is); (case l9 => k_is); (case c9 => k_is); (case k9 => k_is); (case a10 => k_is); (case l10 => k_is); (case c10 => k_is); (case k10 => k_is); (case a11 => k_is); (case l11 => k_is); (case c11 => k_is); (case k11 => k_is); (case a12 => k_is); (case l12 => k_is); (case c12 => k_is); (case k12 => k_is); (case a13 => k_is); (case l13 => k_is); (case c13 => k_is); (case k13 => k_is); (case a14 => k_is); (case l14 => k_is); (case c14 => k_is); (case k14 => k_is); (case a15 => k_is); (case l15 => k_is); (case c15 => k_is); (case k15 => k_is); (case a16 => k_is); (case l16 => k_is); (case c16 => k_is); (case k16 => k_is); (case a17 => k_is); (case l17 => k_is); (case c17 => k_is); (case k17 => k_is); (case a18 => k_is); (case l18 => k_is); (case c18 => k_is); (case k18 => k_is); (case a19 => k_is); (case l19 => k_is); (case c19 => k_is); (case k19 => k_is); (case a20 => k_is); (case l20 => k_is); (case c20 => k_is); (case k20 => k_is); (case a21 => k_is); (case l21 => k_is); (case c21 => k_is); (case k21 => k_is); (case a22 => k_is); (case l22 => k_is); (case c22 => k_is); (case k22 => k_is); (case xh => k_is); (case xt => k_is); (case xa0 => k_is); (case xl0 => k_is); (case xs0 => k_is); (case xg0 => k_is); (case xo0 => k_is); (case xc0 => k_is); (case xf0 => k_is); (case xk0 => k_is); (case xe0 => k_is); (case xy0 => k_is); (case xi0 => k_is); (case xw0 => k_is); (case xj0 => k_is); (case xr0 => k_is); (case xz0 => k_is); (case xv0 => k_is); (case z0 => k_is); (case z1 => k_is); (case z2 => k_is); (case z3 => k_is); (case z4 => k_is); (case z5 => k_is); (case z6 => k_is); (case z7 => k_is); (case z8 => k_is); (case z9 => k_is); (case z10 => k_is); (case z11 => k_is); (case z12 => k_is); (case z13 => k_is)
